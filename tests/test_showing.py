"""Point 10: which tables show that no plan has a greater worth."""

import random
import unittest

import planning
from icehouse.plans import best
from icehouse.showing import shows
from planning import every_worth, some_tasks, whole_table

END = ("end",)
BOUND = ("bound",)
HEATS = (1, 2, 3, 4, 5)
# Nothing melts here: each cell has at any hour what it has at first.
COLD = ((0,) * 5, ((5, 0), (0, 7)), ())
# Each of the two loses 2 an hour to the outside, and 3 to the other's place once that is empty.
PAIR = ((0, 2, 0, 2, 3), ((10, 20),), ())
TAKE = (("take", 1),)
LAY = (("lay", 1, 4),)


def cases(*rows):
    return ("cases", tuple(rows))


def ends(*places):
    return cases(*[(place, END) for place in places])


class TestEnd(unittest.TestCase):
    def test_without_deeds_against_the_total_at_the_till(self):
        for till, total in ((0, 30), (1, 26), (4, 14), (5, 10), (6, 5), (7, 0), (10 ** 6, 0)):
            with self.subTest(till=till):
                self.assertIs(shows(PAIR, (), till, total, END), True)
                self.assertIs(shows(PAIR, (), till, total + 1, END), True)
                self.assertIs(shows(PAIR, (), till, 10 ** 9, END), True)
                self.assertIs(shows(PAIR, (), till, total - 1, END), False)
                self.assertIs(shows(PAIR, (), till, -1, END), False)

    def test_not_where_there_is_a_deed(self):
        for deeds in (TAKE, LAY, TAKE + (("take", 2),)):
            for worth in (0, 30, 10 ** 9):
                self.assertIs(shows(PAIR, deeds, 9, worth, END), False)

    def test_not_where_there_is_a_deed_yet_within_cases(self):
        deeds = (("take", 1), ("take", 2))
        self.assertFalse(shows(PAIR, deeds, 9, 10 ** 9, ends(None, (0, 0), (0, 1))))

    def test_what_was_taken_and_the_total_together(self):
        # Behind an hour they have 8 and 18; what isn't taken loses 5 in the hour from then on.
        table = ends(None, (0, 0), (0, 1))
        self.assertIs(shows(PAIR, TAKE, 2, 22, table), True)
        self.assertIs(shows(PAIR, TAKE, 2, 21, table), False)
        # Till the hour 4: 2 + 12 without; 8 + 3; 18 + 0.
        self.assertIs(shows(PAIR, TAKE, 4, 18, table), True)
        self.assertIs(shows(PAIR, TAKE, 4, 17, table), False)

    def test_a_worth_that_one_plan_passes_at_any_place(self):
        deeds = (("take", 0), ("take", 1))
        for house in (PAIR, COLD, (HEATS, ((9, 3, 5),), ())):
            table = whole_table(house, deeds, 3)
            most = max(every_worth(house, deeds, 3).values())
            self.assertIs(shows(house, deeds, 3, most, table), True)
            self.assertIs(shows(house, deeds, 3, most - 1, table), False)


class TestBound(unittest.TestCase):
    def test_just_met_and_passed_by_one(self):
        # Behind an hour they have 8 and 18 together.
        self.assertIs(shows(PAIR, TAKE, 9, 26, BOUND), True)
        self.assertIs(shows(PAIR, TAKE, 9, 25, BOUND), False)
        self.assertIs(shows(PAIR, TAKE, 9, 27, BOUND), True)

    def test_the_total_at_the_deeds_hour_counts(self):
        for hour, total in ((0, 30), (1, 26), (4, 14), (5, 10), (6, 5), (7, 0)):
            with self.subTest(hour=hour):
                self.assertIs(shows(PAIR, (("take", hour),), 9, total, BOUND), True)
                self.assertIs(shows(PAIR, (("take", hour),), 9, total - 1, BOUND), False)

    def test_the_parts_of_this_and_all_later_lays_count(self):
        deeds = (("lay", 1, 4), ("take", 2), ("lay", 3, 30))
        self.assertIs(shows(COLD, deeds, 9, 12 + 34, BOUND), True)
        self.assertIs(shows(COLD, deeds, 9, 12 + 33, BOUND), False)
        self.assertIs(shows(COLD, LAY, 9, 16, BOUND), True)
        self.assertIs(shows(COLD, LAY, 9, 15, BOUND), False)
        full = ((0,) * 5, ((5, 7),), ())
        self.assertIs(shows(full, LAY, 9, 16, BOUND), True)
        self.assertIs(shows(full, LAY, 9, 15, BOUND), False)

    def test_lays_ahead_count_by_what_stands_alone(self):
        deeds = (("lay", 1, 4), ("lay", 2, 30))
        table = cases((None, BOUND), ((0, 1), BOUND), ((1, 0), BOUND))
        self.assertIs(shows(COLD, deeds, 9, 46, table), True)
        self.assertIs(shows(COLD, deeds, 9, 45, table), False)
        # Where nothing could be laid first, the second one alone counts.
        full = ((0,) * 5, ((5, 7),), ())
        self.assertIs(shows(full, deeds, 9, 42, cases((None, BOUND))), True)
        self.assertIs(shows(full, deeds, 9, 41, cases((None, BOUND))), False)
        # What was laid first has melted by the second one's hour.
        lone = ((4, 0, 0, 0, 0), ((0,),), ())
        table = cases((None, BOUND), ((0, 0), BOUND))
        self.assertIs(shows(lone, deeds, 2, 30, table), True)
        self.assertIs(shows(lone, deeds, 2, 29, table), False)

    def test_what_was_taken_ahead_counts(self):
        deeds = (("take", 0), ("take", 1))
        # Behind an hour: 8 + 18 without; 10 taken and 15; 20 taken and 5.
        table = cases((None, BOUND), ((0, 0), BOUND), ((0, 1), BOUND))
        self.assertIs(shows(PAIR, deeds, 1, 26, table), True)
        self.assertIs(shows(PAIR, deeds, 1, 25, table), False)
        deeds = (("take", 0), ("take", 4))
        # Behind four hours: 2 + 12 without; 10 taken and 0; 20 taken and 0.
        self.assertIs(shows(PAIR, deeds, 4, 20, table), True)
        self.assertIs(shows(PAIR, deeds, 4, 19, table), False)

    def test_not_where_there_is_no_deed(self):
        for worth in (0, 30, 10 ** 9):
            self.assertIs(shows(PAIR, (), 0, worth, BOUND), False)
            self.assertIs(shows(PAIR, (), 9, worth, BOUND), False)

    def test_not_behind_the_last_deed(self):
        rows = [(None, END), ((0, 0), END), ((0, 1), END)]
        self.assertTrue(shows(PAIR, TAKE, 9, 10 ** 9, cases(*rows)))
        for at in range(3):
            wrong = list(rows)
            wrong[at] = (rows[at][0], BOUND)
            self.assertIs(shows(PAIR, TAKE, 9, 10 ** 9, cases(*wrong)), False)


class TestCases(unittest.TestCase):
    def refuse(self, house, deeds, table, till=9):
        with self.subTest(table=table):
            self.assertIs(shows(house, deeds, till, 10 ** 9, table), False)

    def test_none_and_each_place_that_fits_rising(self):
        self.assertIs(shows(COLD, TAKE, 9, 12, ends(None, (0, 0), (1, 1))), True)
        self.assertIs(shows(COLD, LAY, 9, 16, ends(None, (0, 1), (1, 0))), True)
        self.assertIs(shows(COLD, LAY, 9, 15, ends(None, (0, 1), (1, 0))), False)

    def test_none_alone_where_no_place_fits(self):
        full = ((0,) * 5, ((5, 7),), ())
        self.assertIs(shows(full, LAY, 9, 12, ends(None)), True)
        self.assertIs(shows(full, LAY, 9, 11, ends(None)), False)
        self.assertIs(shows((HEATS, ((0,),), ()), TAKE, 9, 0, ends(None)), True)
        self.refuse(full, LAY, cases())

    def test_the_places_are_those_at_the_deeds_hour(self):
        # At the hour 5 the first is empty, an hour ahead it is not.
        self.assertIs(shows(PAIR, (("take", 4),), 9, 10 ** 9, ends(None, (0, 0), (0, 1))), True)
        self.assertIs(shows(PAIR, (("take", 5),), 9, 10 ** 9, ends(None, (0, 1))), True)
        self.assertIs(shows(PAIR, (("lay", 5, 3),), 9, 10 ** 9, ends(None, (0, 0))), True)
        self.assertIs(shows(PAIR, (("lay", 4, 3),), 9, 10 ** 9, ends(None)), True)
        self.refuse(PAIR, (("take", 5),), ends(None, (0, 0), (0, 1)))
        self.refuse(PAIR, (("lay", 4, 3),), ends(None, (0, 0)))

    def test_a_row_left_out(self):
        places = [None, (0, 0), (1, 1)]
        for at in range(3):
            self.refuse(COLD, TAKE, ends(*places[:at], *places[at + 1:]))
        self.refuse(COLD, TAKE, cases())
        self.refuse(COLD, TAKE, ends(None))

    def test_a_row_doubled(self):
        places = [None, (0, 0), (1, 1)]
        for at in range(3):
            self.refuse(COLD, TAKE, ends(*places[:at], places[at], *places[at:]))
        self.refuse(COLD, TAKE, ends(*places, None))
        self.refuse(COLD, TAKE, ends(*places, *places))

    def test_another_order_and_none_not_first(self):
        self.refuse(COLD, TAKE, ends(None, (1, 1), (0, 0)))
        self.refuse(COLD, TAKE, ends((0, 0), None, (1, 1)))
        self.refuse(COLD, TAKE, ends((0, 0), (1, 1), None))
        self.refuse(COLD, LAY, ends(None, (1, 0), (0, 1)))

    def test_another_place(self):
        for place in ((0, 1), (1, 0), (2, 0), (0, 2), (-1, 0), (0, -1), (1, 1), (-2, 0), (0, -2), (99, 99)):
            self.refuse(COLD, TAKE, ends(None, place, (1, 1)))
            self.refuse(COLD, TAKE, ends(None, (0, 0), (1, 1), place))
            self.refuse(COLD, TAKE, ends(None, place, (0, 0), (1, 1)))

    def test_places_of_another_form(self):
        for place in (0, "00", "", (), (0,), (0, 0, 0), ((0, 0),), ("0", "0"), (None, None), (0, None), "None"):
            self.refuse(COLD, TAKE, ends(None, place, (1, 1)))
        for place in ((False, 0), (0, False), (False, False)):
            self.refuse(COLD, TAKE, ends(None, place, (1, 1)))
        for place in ((True, 1), (1, True)):
            self.refuse(COLD, TAKE, ends(None, (0, 0), place))
        for place in (0, "", (), (None,), False):
            self.refuse(COLD, TAKE, ends(place, (0, 0), (1, 1)))

    def test_one_inner_table_that_does_not_show_it(self):
        places = [None, (0, 0), (1, 1)]
        for at in range(3):
            for inner in (BOUND, (), ends(None), None, 0, "end"):
                rows = [(place, END) for place in places]
                rows[at] = (places[at], inner)
                self.refuse(COLD, TAKE, cases(*rows))

    def test_not_where_there_is_no_deed(self):
        self.refuse(COLD, (), ends(None))
        self.refuse(COLD, (), cases())
        self.refuse(COLD, (), cases((None, BOUND)))
        inner = ends(None)
        self.refuse(COLD, TAKE, cases((None, inner), ((0, 0), END), ((1, 1), END)))

    def test_bounds_and_cases_side_by_side(self):
        deeds = (("take", 0), ("take", 1))
        # A bound serves where nothing is taken first; else the second deed must be gone through.
        table = cases(
            (None, ends(None, (0, 0), (0, 1))),
            ((0, 0), ends(None, (0, 1))),
            ((0, 1), ends(None, (0, 0))),
        )
        most = max(every_worth(PAIR, deeds, 4).values())
        self.assertEqual(most, 25)
        self.assertIs(shows(PAIR, deeds, 4, 25, table), True)
        self.assertIs(shows(PAIR, deeds, 4, 24, table), False)
        for at, bound in ((0, 26), (1, 25), (2, 25)):
            rows = list(table[1])
            rows[at] = (rows[at][0], BOUND)
            self.assertIs(shows(PAIR, deeds, 4, bound, cases(*rows)), True)
            self.assertIs(shows(PAIR, deeds, 4, bound - 1, cases(*rows)), False)


class TestOtherForms(unittest.TestCase):
    def test_other_forms_show_nothing(self):
        rows = ((None, END), ((0, 0), END), ((1, 1), END))
        wrong = [
            (), ("end", "end"), ("end", None), ("end", ()), ("bound", "bound"), ("bound", 5), ("bound", ()),
            ("cases",), ("cases", rows, rows), ("cases", None), ("cases", 5), ("cases", "rows"), ("cases", ()),
            ("cases", "abc"), ("cases", (None,)), ("cases", (None, None, None)), ("cases", (1, 2, 3)),
            ("cases", (None, (0, 0), (1, 1))), ("cases", ((), (), ())), ("cases", ("ab", "cd", "ef")),
            ("cases", ((None,), ((0, 0),), ((1, 1),))), ("cases", tuple(row + (END,) for row in rows)),
            ("cases", tuple((table, place) for place, table in rows)), ("cases", rows[0], rows[1], rows[2]),
            rows, (rows,), (rows, "cases"), ("cases", (rows,)), (END,), (BOUND,), (("cases", rows),),
            ("End",), ("END",), ("Bound",), ("Cases", rows), ("case", rows), ("case",), ("",), (None,), (0,), (1, 2),
            ("end ",), ("e", "n", "d"), (None, rows), (("cases",), rows),
        ]
        self.assertTrue(shows(COLD, TAKE, 9, 10 ** 9, ("cases", rows)))
        for table in wrong:
            for deeds in ((), TAKE, LAY, TAKE + (("take", 2),)):
                with self.subTest(table=table, deeds=deeds):
                    self.assertIs(shows(COLD, deeds, 9, 10 ** 9, table), False)

    def test_other_forms_within_cases_show_nothing(self):
        for inner in ((), None, 0, 5, "end", "bound", "", ("end", 0), (END,), ("ends",), ("cases",), (None, END)):
            for at in range(3):
                rows = [(None, END), ((0, 0), END), ((1, 1), END)]
                rows[at] = (rows[at][0], inner)
                with self.subTest(inner=inner, at=at):
                    self.assertIs(shows(COLD, TAKE, 9, 10 ** 9, cases(*rows)), False)

    def test_no_tables_where_there_is_a_deed_yet_show_nothing(self):
        deeds = TAKE + (("take", 2),)
        right = ends(None, (1, 1))
        for inner in ((), None, 0, 5, -1, "cases", "ab", "", ("cases", 5), ("cases", None), ("cases", (5, None))):
            wrong = cases((None, inner), ((0, 0), right), ((1, 1), ends(None, (0, 0))))
            with self.subTest(inner=inner):
                self.assertIs(shows(COLD, deeds, 9, 10 ** 9, wrong), False)
        right = cases((None, ends(None, (0, 0), (1, 1))), ((0, 0), right), ((1, 1), ends(None, (0, 0))))
        self.assertIs(shows(COLD, deeds, 9, 10 ** 9, right), True)

    def test_a_deep_tuple_shows_nothing(self):
        deep = END
        for _ in range(3000):
            deep = ("cases", ((None, deep),))
        self.assertIs(shows(COLD, TAKE, 9, 10 ** 9, deep), False)
        empty = (HEATS, ((0,),), ())
        self.assertIs(shows(empty, (("take", 0), ("take", 1), ("take", 2)), 9, 10 ** 9, deep), False)


def some_change(dice, table):
    """The table with one thing changed at random somewhere."""
    if table[0] == "cases" and table[1] and dice.random() < 0.6:
        rows = list(table[1])
        at = dice.randrange(len(rows))
        place, inner = rows[at]
        kind = dice.randrange(8)
        if kind < 3:
            rows[at] = (place, some_change(dice, inner))
        elif kind == 3:
            del rows[at]
        elif kind == 4:
            rows.insert(at, rows[at])
        elif kind == 5:
            dice.shuffle(rows)
        elif kind == 6:
            rows[at] = (dice.choice((None, (0, 0), (0, 1), (1, 0), (1, 1), (5, 5))), inner)
        else:
            rows[at] = rows[at] + (END,)
        return ("cases", tuple(rows))
    return dice.choice((END, BOUND, BOUND, BOUND, (), ("cases", ()), ends(None), ("cases",), table + (0,)))


class TestAgainstTheWords(unittest.TestCase):
    def test_what_best_told(self):
        for house, deeds, till in some_tasks(120, 101):
            most, _, table = best(house, deeds, till)
            with self.subTest(house=house, deeds=deeds, till=till):
                for more in (0, 1, 10 ** 9):
                    self.assertIs(shows(house, deeds, till, most + more, table), True)

    def test_false_for_each_worth_that_some_plan_passes(self):
        for house, deeds, till in some_tasks(60, 102):
            whole = whole_table(house, deeds, till)
            told = best(house, deeds, till)[2]
            for parts in set(every_worth(house, deeds, till).values()):
                for table in (whole, told, BOUND, END):
                    with self.subTest(house=house, deeds=deeds, till=till, worth=parts - 1):
                        self.assertIs(shows(house, deeds, till, parts - 1, table), False)

    def test_the_whole_table_shows_the_greatest_worth(self):
        for house, deeds, till in some_tasks(80, 103):
            most = max(every_worth(house, deeds, till).values())
            table = whole_table(house, deeds, till)
            with self.subTest(house=house, deeds=deeds, till=till):
                self.assertIs(shows(house, deeds, till, most, table), True)
                self.assertIs(shows(house, deeds, till, most - 1, table), False)

    def test_changed_tables(self):
        dice = random.Random(104)
        seen = {True: 0, False: 0}
        for house, deeds, till in some_tasks(60, 105):
            most = max(every_worth(house, deeds, till).values())
            tables = [whole_table(house, deeds, till), best(house, deeds, till)[2]]
            for _ in range(25):
                table = some_change(dice, dice.choice(tables))
                worth = most + dice.choice((-1, 0, 0, 0, 1, 5, 40))
                right = planning.shows(house, deeds, till, worth, table)
                seen[right] += 1
                with self.subTest(house=house, deeds=deeds, till=till, worth=worth, table=table):
                    self.assertIs(shows(house, deeds, till, worth, table), right)
        self.assertGreater(min(seen.values()), 100)


if __name__ == "__main__":
    unittest.main()
