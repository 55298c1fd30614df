"""Point 9: worked, worth, best."""

import unittest

import hourly
import planning
from hourly import some_houses
from icehouse.houses import total
from icehouse.melting import left
from icehouse.plans import best, worked, worth
from icehouse.showing import shows
from planning import every_worth, some_tasks

LAST = 10 ** 6
HEATS = (1, 2, 3, 4, 5)
HOUSE = (HEATS, ((10, 0), (7, 20)), ())
# The first melts from the west, 2 an hour, and then the second from the first, 3 an hour; the wall keeps
# the air of the second from the third.
ROW = ((0, 0, 0, 2, 3), ((5, 7, 11),), ((0, 2, 3),))


class TestWorked(unittest.TestCase):
    def test_without_deeds_it_melts_till_the_till(self):
        self.assertEqual(worked(ROW, (), 0, ()), (0, ROW))
        self.assertEqual(worked(ROW, (), 4, ()), (0, (ROW[0], ((0, 4, 11),), ROW[2])))
        self.assertEqual(worked(ROW, (), LAST, ()), (0, (ROW[0], ((0, 0, 11),), ROW[2])))

    def test_taken_by_hand(self):
        # Behind an hour the first has 3; then the second melts by the place that it leaves.
        self.assertEqual(worked(ROW, (("take", 1),), 1, ((0, 0),)), (3, (ROW[0], ((0, 7, 11),), ROW[2])))
        self.assertEqual(worked(ROW, (("take", 1),), 2, ((0, 0),)), (3, (ROW[0], ((0, 4, 11),), ROW[2])))
        self.assertEqual(worked(ROW, (("take", 1),), 3, ((0, 0),)), (3, (ROW[0], ((0, 1, 11),), ROW[2])))
        self.assertEqual(worked(ROW, (("take", 1),), 4, ((0, 0),)), (3, (ROW[0], ((0, 0, 11),), ROW[2])))
        # The first melts from both its sides behind the hour at which the second is taken.
        self.assertEqual(worked(ROW, (("take", 0),), 1, ((0, 1),)), (7, (ROW[0], ((0, 0, 11),), ROW[2])))
        self.assertEqual(worked(ROW, (("take", 0),), 0, ((0, 1),)), (7, (ROW[0], ((5, 0, 11),), ROW[2])))
        self.assertEqual(worked(ROW, (("take", 5),), 9, ((0, 2),)), (11, (ROW[0], ((0, 0, 0),), ROW[2])))

    def test_laid_by_hand(self):
        # What is laid behind three hours keeps the air from the second, and melts from the west.
        lay = (("lay", 3, 8),)
        self.assertEqual(worked(ROW, lay, 3, ((0, 0),)), (0, (ROW[0], ((8, 7, 11),), ROW[2])))
        self.assertEqual(worked(ROW, lay, 6, ((0, 0),)), (0, (ROW[0], ((2, 7, 11),), ROW[2])))
        self.assertEqual(worked(ROW, lay, 8, ((0, 0),)), (0, (ROW[0], ((0, 4, 11),), ROW[2])))

    def test_several_deeds_by_hand(self):
        deeds = (("take", 1), ("lay", 2, 6), ("take", 4))
        # (3, 7, 11) behind an hour; (0, 4, 11) behind two; then (6, 4, 11), and (2, 4, 11) behind four.
        self.assertEqual(worked(ROW, deeds, 4, ((0, 0), (0, 0), (0, 1))), (7, (ROW[0], ((2, 0, 11),), ROW[2])))
        self.assertEqual(worked(ROW, deeds, 5, ((0, 0), (0, 0), (0, 1))), (7, (ROW[0], ((0, 0, 11),), ROW[2])))
        self.assertEqual(worked(ROW, deeds, 5, ((0, 0), (0, 0), (0, 0))), (5, (ROW[0], ((0, 1, 11),), ROW[2])))
        self.assertEqual(worked(ROW, deeds, 5, ((0, 0), (0, 0), None)), (3, (ROW[0], ((0, 4, 11),), ROW[2])))
        self.assertEqual(worked(ROW, deeds, 4, ((0, 0), None, (0, 2))), (14, (ROW[0], ((0, 0, 0),), ROW[2])))

    def test_none_does_nothing(self):
        for house, deeds, till in some_tasks(80, 91):
            with self.subTest(house=house, deeds=deeds, till=till):
                self.assertEqual(worked(house, deeds, till, (None,) * len(deeds)), (0, left(house, till)))

    def test_all_that_is_taken_counts_together(self):
        cold = ((0,) * 5, ((10, 200), (3000, 4)), ())
        deeds = (("take", 0), ("take", 500), ("take", LAST))
        self.assertEqual(worked(cold, deeds, LAST, ((1, 0), (0, 0), (0, 1)))[0], 3210)
        self.assertEqual(worked(cold, deeds, LAST, ((1, 0), None, (1, 1)))[0], 3004)
        self.assertEqual(worked(cold, deeds, LAST, ((1, 0), None, (1, 1)))[1][1], ((10, 200), (0, 0)))

    def test_a_tuple_of_a_number_and_a_house(self):
        for plan in (((0, 1), (0, 0)), (None, None)):
            told = worked(((0,) * 5, ((5, 6), (0, 7)), ((0, 0, 0),)), (("take", 1), ("take", 2)), 5, plan)
            self.assertEqual([type(part) for part in told], [int, tuple])
            self.assertEqual([type(part) for part in (*told[1], *told[1][1])], [tuple] * 5)

    def test_heats_and_walls_stay(self):
        house = (HEATS, ((10, 0), (7, 20)), ((1, 1, 0), (0, 1, 3), (1, 0, 2)))
        told = worked(house, (("take", 0), ("lay", 1, 5)), 3, ((1, 1), (1, 1)))[1]
        self.assertEqual((told[0], told[2]), (house[0], house[2]))

    def test_each_plan_hour_by_hour(self):
        for house, deeds, till in some_tasks(80, 92):
            for plan, parts in every_worth(house, deeds, till).items():
                with self.subTest(house=house, deeds=deeds, till=till, plan=plan):
                    self.assertEqual(worked(house, deeds, till, plan), planning.worked(house, deeds, till, plan))
                    self.assertEqual(worth(house, deeds, till, plan), parts)

    def test_far_hours(self):
        slow = ((0, 0, 0, 1, 2), ((9999, 9999),), ())
        deeds = (("take", 9000), ("lay", 9500, 9999), ("take", LAST))
        # The first has 999 when it's taken; then the second loses 2 an hour till ice is laid beside it.
        told = worked(slow, deeds, LAST, ((0, 0), (0, 0), None))
        self.assertEqual(told, (999, (slow[0], ((0, 0),), ())))
        self.assertEqual(worked(slow, deeds[:2], 9500, ((0, 0), (0, 0)))[1][1], ((9999, 8999),))
        self.assertEqual(worked(slow, deeds[:2], 9500 + 9999, ((0, 0), (0, 0)))[1][1], ((0, 8999),))
        self.assertEqual(worked(slow, deeds[:2], 9500 + 9999 + 10, ((0, 0), (0, 0)))[1][1], ((0, 8979),))


class TestWorth(unittest.TestCase):
    def test_taken_and_left_together(self):
        self.assertEqual(worth(ROW, (), 0, ()), 23)
        self.assertEqual(worth(ROW, (), 4, ()), 15)
        self.assertEqual(worth(ROW, (("take", 1),), 2, ((0, 0),)), 18)
        self.assertEqual(worth(ROW, (("take", 1),), 2, (None,)), 19)
        self.assertEqual(worth(ROW, (("lay", 3, 8),), 6, ((0, 0),)), 20)
        self.assertEqual(worth(ROW, (("take", 1), ("lay", 2, 6), ("take", 4)), 5, ((0, 0), (0, 0), (0, 0))), 17)

    def test_it_is_a_number(self):
        self.assertIs(type(worth(ROW, (("take", 1),), 2, ((0, 0),))), int)
        self.assertIs(type(worth((HEATS, ((0,),), ()), (), 0, ())), int)


class TestBest(unittest.TestCase):
    def hold(self, house, deeds, till, most):
        """Hold what best tells against the greatest worth of all plans; tell the table."""
        told = best(house, deeds, till)
        self.assertEqual([type(part) for part in told], [int, tuple, tuple])
        found, plan, table = told
        self.assertEqual(found, most)
        self.assertEqual(worth(house, deeds, till, plan), most)
        self.assertIs(shows(house, deeds, till, most, table), True)
        self.assertIs(shows(house, deeds, till, most - 1, table), False)
        return table

    def hold_small(self, house, deeds, till):
        """Hold it against every plan, and the table against the words."""
        with self.subTest(house=house, deeds=deeds, till=till):
            most = max(every_worth(house, deeds, till).values())
            table = self.hold(house, deeds, till, most)
            self.assertTrue(planning.shows(house, deeds, till, most, table))
            self.assertFalse(planning.shows(house, deeds, till, most - 1, table))

    def test_without_deeds(self):
        self.assertEqual(best(ROW, (), 0), (23, (), ("end",)))
        self.assertEqual(best(ROW, (), 4), (15, (), ("end",)))
        self.assertEqual(best((HEATS, ((0,),), ()), (), LAST), (0, (), ("end",)))

    def test_by_hand(self):
        # Till the hour 6 the first and the second are lost; what is taken is saved, and the third stands.
        self.assertEqual(best(ROW, (("take", 0),), 6)[:2], (18, ((0, 1),)))
        self.assertEqual(best(ROW, (("take", 2),), 6)[:2], (18, ((0, 1),)))
        self.assertEqual(best(ROW, (("take", 5),), 6)[:2], (12, ((0, 1),)))
        # Without the first, the second has 4 behind an hour; without the second, the first has none then.
        self.assertEqual(best(ROW, (("take", 0), ("take", 1)), 6)[:2], (20, ((0, 0), (0, 1))))
        self.assertEqual(best(ROW, (("lay", 3, 8),), 6)[:2], (20, ((0, 0),)))

    def test_where_nothing_is_best(self):
        # Whatever is taken warms the rest, and all stands at the till.
        house = ((0, 0, 0, 0, 9), ((50, 50), (50, 50)), ())
        self.assertEqual(best(house, (("take", 0), ("take", 1)), 100)[:2], (200, (None, None)))

    def test_where_no_place_fits(self):
        full = ((0,) * 5, ((5, 5),), ())
        self.assertEqual(best(full, (("lay", 0, 9),), 9)[:2], (10, (None,)))
        empty = (HEATS, ((0, 0),), ())
        self.assertEqual(best(empty, (("take", 0), ("take", 4)), 9)[:2], (0, (None, None)))

    def test_against_every_plan(self):
        for house, deeds, till in some_tasks(150, 93):
            self.hold_small(house, deeds, till)

    def test_against_every_plan_of_more_cells(self):
        for house, deeds, till in some_tasks(40, 94, most_deeds=2, most_cells=9):
            self.hold_small(house, deeds, till)

    def test_at_the_bounds(self):
        full = ((9,) * 5, ((9999,) * 4,) * 4, ())
        deeds = (("take", 0), ("take", 1), ("take", LAST))
        # Till then all else is lost, and no cell has more than at first.
        self.hold(full, deeds, LAST, 2 * 9999)
        cold = ((0,) * 5, ((0,) * 4,) * 4, ())
        self.hold(cold, (("lay", 0, 9999), ("lay", 1, 1), ("lay", 2, 9999)), LAST, 19999)

    def test_no_plan_has_more_in_large_houses(self):
        for house in some_houses(15, 95, 9999):
            deeds = (("take", 300), ("lay", 500, 800), ("take", 700))
            most, plan, table = best(house, deeds, 1000)
            stood = left(house, 300)
            with self.subTest(house=house):
                self.assertEqual(worth(house, deeds, 1000, plan), most)
                self.assertTrue(shows(house, deeds, 1000, most, table))
                for place in hourly.all_cells(house):
                    if stood[1][place[0]][place[1]]:
                        self.assertLessEqual(worth(house, deeds, 1000, (place, None, None)), most)
                self.assertLessEqual(total(left(house, 1000)), most)


if __name__ == "__main__":
    unittest.main()
