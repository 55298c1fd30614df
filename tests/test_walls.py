"""Points 6 and 7: after, costs, dearest, saved."""

import unittest

import hourly
from hourly import all_walls, some_houses, told_from_beyond
from icehouse.errors import BadHouse, NoSuch
from icehouse.houses import total
from icehouse.melting import left
from icehouse.walls import after, costs, dearest, saved

HEATS = (1, 2, 3, 4, 5)
HOUSE = (HEATS, ((10, 0), (7, 20)), ())
# The first melts from the west, 2 an hour, and then the second from the first, 3 an hour; the wall keeps
# the air of the second from the third.
ROW = ((0, 0, 0, 2, 3), ((5, 7, 11),), ((0, 2, 3),))
NO_HOUSES = (None, [], (HEATS, (), ()), (HEATS, ((1,),), ((0, 0, 0), (0, 0, 0))), (HEATS, ((True,),), ()))


def without(house, number):
    return (house[0], house[1], tuple(wall for at, wall in enumerate(house[2]) if at != number))


def shut_in(rows, columns, heats=HEATS, parts=9):
    return (heats, ((parts,) * columns,) * rows, tuple(all_walls(rows, columns)))


class TestAfterAWall(unittest.TestCase):
    def test_by_hand(self):
        house = (HEATS, ((50, 50),), ((0, 0, 1), (0, 0, 3), (0, 1, 0)))
        self.assertEqual(after(house, 0, ("wall", 1)), (HEATS, ((50, 50),), ((0, 0, 1), (0, 1, 0))))
        # North and south take 4 of the first in an hour, east and south 5 of the second.
        self.assertEqual(after(house, 3, ("wall", 0)), (HEATS, ((38, 35),), ((0, 0, 3), (0, 1, 0))))
        self.assertEqual(after(house, 3, ("wall", 1)), (HEATS, ((38, 35),), ((0, 0, 1), (0, 1, 0))))
        self.assertEqual(after(house, 3, ("wall", 2)), (HEATS, ((38, 35),), ((0, 0, 1), (0, 0, 3))))

    def test_it_melts_with_the_wall_till_it_is_gone_and_without_it_from_then_on(self):
        self.assertEqual(left(ROW, 100)[1], ((0, 0, 11),))
        self.assertEqual(after(ROW, 100, ("wall", 0)), (ROW[0], ((0, 0, 11),), ()))
        self.assertEqual(left(after(ROW, 100, ("wall", 0)), 2)[1], ((0, 0, 5),))

    def test_the_last_wall(self):
        self.assertEqual(after(((0,) * 5, ((4,),), ((0, 0, 2),)), 9, ("wall", 0)), ((0,) * 5, ((4,),), ()))

    def test_the_walls_that_stay_stay_in_their_order_as_they_are_told(self):
        walls = ((1, 1, 3), (0, 1, 2), (0, 0, 0), (1, 0, 0))
        house = (HEATS, ((5, 5), (5, 5)), walls)
        for number in range(4):
            self.assertEqual(after(house, 1, ("wall", number))[2], walls[:number] + walls[number + 1:])

    def test_no_such_wall(self):
        for house in (HOUSE, ROW, shut_in(4, 4)):
            many = len(house[2])
            for number in (-1, -2, -many, -many - 1, many, many + 1, 40, 41, 10 ** 9, -10 ** 9):
                if 0 <= number < many:
                    continue
                for hours in (0, 3, 10 ** 9):
                    with self.subTest(house=house, number=number), self.assertRaises(NoSuch):
                        after(house, hours, ("wall", number))


class TestAfterIce(unittest.TestCase):
    def test_by_hand(self):
        self.assertEqual(after(HOUSE, 0, ("ice", 0, 0)), (HEATS, ((0, 0), (7, 20)), ()))
        self.assertEqual(after(HOUSE, 0, ("ice", 1, 0)), (HEATS, ((10, 0), (0, 20)), ()))
        self.assertEqual(after(HOUSE, 0, ("ice", 1, 1)), (HEATS, ((10, 0), (7, 0)), ()))
        self.assertEqual(after(HOUSE, 1, ("ice", 1, 1)), (HEATS, ((0, 0), (0, 0)), ()))
        self.assertEqual(after(ROW, 2, ("ice", 0, 1)), (ROW[0], ((1, 0, 11),), ROW[2]))

    def test_the_air_of_the_emptied_cell_counts_from_then_on_only(self):
        row = ((0, 0, 0, 0, 4), ((9, 9, 9),), ())
        self.assertEqual(after(row, 100, ("ice", 0, 1)), ((0, 0, 0, 0, 4), ((9, 0, 9),), ()))
        self.assertEqual(left(after(row, 100, ("ice", 0, 1)), 2)[1], ((1, 0, 1),))

    def test_no_such_cell(self):
        for house, rows, columns in ((HOUSE, 2, 2), (ROW, 1, 3), (shut_in(4, 1), 4, 1), (shut_in(4, 4), 4, 4)):
            beyond = [(-1, 0), (rows, 0), (0, -1), (0, columns), (-1, -1), (rows, columns), (-rows, 0), (0, -columns)]
            beyond += [(rows - 1, columns), (rows, columns - 1), (rows - 1, -1), (-1, columns - 1), (99, 0), (0, 99)]
            for row, column in beyond:
                for hours in (0, 1, 10 ** 9):
                    with self.subTest(house=house, row=row, column=column), self.assertRaises(NoSuch):
                        after(house, hours, ("ice", row, column))

    def test_a_cell_that_is_empty_at_first(self):
        for hours in (0, 1, 2, 10 ** 9):
            with self.assertRaises(NoSuch):
                after(HOUSE, hours, ("ice", 0, 1))

    def test_a_cell_that_is_empty_by_then(self):
        # The cells are empty behind the hours 3 and 6; an hour sooner each has ice.
        self.assertEqual(after(ROW, 2, ("ice", 0, 0))[1], ((0, 7, 11),))
        self.assertEqual(after(ROW, 5, ("ice", 0, 1))[1], ((0, 0, 11),))
        for column, hour in ((0, 3), (1, 6)):
            for hours in (hour, hour + 1, 5000, 10 ** 9):
                with self.subTest(column=column, hours=hours), self.assertRaises(NoSuch):
                    after(ROW, hours, ("ice", 0, column))
        self.assertEqual(after(ROW, 10 ** 9, ("ice", 0, 2))[1], ((0, 0, 0),))


class TestAfter(unittest.TestCase):
    def test_each_change_against_the_words(self):
        for house in some_houses(60, 61, 40) + some_houses(6, 62, 900):
            for hours in (0, 1, 2, 5, 20, 3000, 10 ** 9):
                stood = hourly.left(house, hours)
                with self.subTest(house=house, hours=hours):
                    self.hold_walls(house, hours, stood)
                    self.hold_cells(house, hours, stood)

    def hold_walls(self, house, hours, stood):
        for number in range(len(house[2])):
            self.assertEqual(after(house, hours, ("wall", number)), without(stood, number))

    def hold_cells(self, house, hours, stood):
        for row, column in hourly.all_cells(house):
            if stood[1][row][column]:
                emptied = hourly.with_cell(stood, (row, column), 0)
                self.assertEqual(after(house, hours, ("ice", row, column)), emptied)
            else:
                with self.assertRaises(NoSuch):
                    after(house, hours, ("ice", row, column))

    def test_a_house_of_tuples(self):
        for change in (("wall", 0), ("ice", 0, 1)):
            told = after(ROW, 2, change)
            self.assertEqual([type(part) for part in (told, *told, told[1][0])], [tuple] * 5)

    def test_no_house_is_refused_ahead_of_no_such(self):
        for house in NO_HOUSES:
            for change in (("wall", 99), ("ice", 9, 9), ("wall", 0), ("ice", 0, 0)):
                with self.subTest(house=house, change=change), self.assertRaises(BadHouse):
                    after(house, 1, change)

    def test_hours_somewhat_beyond_the_limits_raise_nothing(self):
        self.assertEqual(after(ROW, 10 ** 9 + 1, ("wall", 0)), (ROW[0], ((0, 0, 11),), ()))
        self.assertEqual(after(ROW, -1, ("wall", 0)), (ROW[0], ROW[1], ()))

    def test_the_house_is_as_it_was(self):
        kept = ((0, 0, 0, 2, 3), ((5, 7, 11),), ((0, 2, 3),))
        for change in (("wall", 0), ("ice", 0, 0), ("ice", 0, 2)):
            after(ROW, 1, change)
            self.assertEqual(ROW, kept)


class TestCosts(unittest.TestCase):
    def test_by_hand(self):
        told = [costs(ROW, hours) for hours in (0, 6, 7, 8, 9, 10, 10 ** 9)]
        self.assertEqual(told, [[0], [0], [3], [6], [9], [11], [11]])
        alone = (HEATS, ((100,),), ((0, 0, 3), (0, 0, 0), (0, 0, 2), (0, 0, 1)))
        self.assertEqual(costs(alone, 0), [0, 0, 0, 0])
        self.assertEqual(costs(alone, 1), [4, 1, 3, 2])
        self.assertEqual(costs(alone, 30), [100, 30, 90, 60])
        self.assertEqual(costs(alone, 10 ** 9), [100, 100, 100, 100])

    def test_each_without_its_own_wall_alone(self):
        # Each keeps the air out at its own face; the other one stands while it is gone.
        house = ((0, 0, 0, 0, 7), ((0, 50, 0),), ((0, 0, 1), (0, 2, 3)))
        self.assertEqual(costs(house, 3), [21, 21])

    def test_all_parts_of_the_house_count(self):
        # Without the wall the first is empty behind an hour, and then the second melts by its air.
        house = ((0, 0, 0, 9, 5), ((9, 100),), ((0, 0, 3),))
        self.assertEqual([costs(house, hours) for hours in (1, 2, 21, 22)], [[9], [14], [109], [109]])

    def test_without_walls(self):
        for hours in (0, 5, 10 ** 9):
            self.assertEqual(costs(HOUSE, hours), [])

    def test_a_list_of_numbers(self):
        told = costs(shut_in(2, 2), 3)
        self.assertIs(type(told), list)
        self.assertEqual([type(parts) for parts in told], [int] * 12)

    def test_hours_somewhat_beyond_the_limits_raise_nothing(self):
        self.assertEqual(costs(ROW, 10 ** 9 + 1), [11])
        self.assertEqual(costs(ROW, -1), [0])


class TestDearest(unittest.TestCase):
    def test_by_hand(self):
        alone = (HEATS, ((100,),), ((0, 0, 0), (0, 0, 3), (0, 0, 2), (0, 0, 1)))
        self.assertEqual(dearest(alone, 1), (1, 4))
        self.assertEqual(dearest(alone, 25), (1, 100))
        self.assertEqual(dearest(ROW, 8), (0, 6))

    def test_the_first_of_several(self):
        alone = (HEATS, ((100,),), ((0, 0, 0), (0, 0, 3), (0, 0, 2), (0, 0, 1)))
        self.assertEqual(dearest(alone, 0), (0, 0))
        self.assertEqual(dearest(alone, 34), (1, 100))
        self.assertEqual(dearest(alone, 100), (0, 100))
        self.assertEqual(dearest(((3, 0, 3, 0, 0), ((9,),), ((0, 0, 1), (0, 0, 2), (0, 0, 0))), 2), (1, 6))

    def test_none_without_walls(self):
        for house in (HOUSE, ((0,) * 5, ((0,),), ())):
            for hours in (0, 5, 10 ** 9):
                self.assertIsNone(dearest(house, hours))


class TestSaved(unittest.TestCase):
    def test_by_hand(self):
        alone = (HEATS, ((100,),), ())
        self.assertEqual(saved(alone, 1), ((0, 0, 3), 4))
        self.assertEqual(saved(alone, 10), ((0, 0, 3), 40))
        self.assertEqual(saved((HEATS, ((100,),), ((0, 0, 3),)), 10), ((0, 0, 2), 30))
        # 10 an hour leave nothing behind 16 hours; with a wall in the west 4 parts are left.
        self.assertEqual(saved(alone, 16), ((0, 0, 3), 4))
        self.assertEqual(saved(alone, 17), ((0, 0, 0), 0))

    def test_the_least_of_several_with_0_where_nothing_is_saved(self):
        self.assertEqual(saved((HEATS, ((100,),), ()), 0), ((0, 0, 0), 0))
        self.assertEqual(saved(((0,) * 5, ((1, 2), (3, 4)), ()), 10 ** 9), ((0, 0, 0), 0))
        self.assertEqual(saved(((0,) * 5, ((1, 2), (3, 4)), ((0, 0, 0), (0, 0, 3))), 9), ((0, 0, 1), 0))
        self.assertEqual(saved((HEATS, ((0,),), ((0, 0, 0), (0, 0, 1))), 9), ((0, 0, 2), 0))

    def test_the_least_of_several_by_row_then_column_then_side(self):
        self.assertEqual(saved(((5, 0, 5, 0, 0), ((99,),), ()), 2), ((0, 0, 0), 10))
        self.assertEqual(saved(((0, 5, 0, 5, 0), ((99,),), ()), 2), ((0, 0, 1), 10))
        self.assertEqual(saved(((0, 0, 0, 5, 0), ((99,), (99,)), ()), 2), ((0, 0, 3), 10))
        self.assertEqual(saved(((0, 5, 0, 5, 0), ((99,), (99,)), ((0, 0, 3), (0, 0, 1))), 2), ((1, 0, 1), 10))
        self.assertEqual(saved(((5, 0, 0, 0, 0), ((0, 99, 99),), ()), 2), ((0, 1, 0), 10))

    def test_a_face_between_is_told_from_its_north_or_west_cell(self):
        self.assertEqual(saved(((0, 0, 0, 0, 3), ((0, 9),), ()), 1), ((0, 0, 1), 3))
        self.assertEqual(saved(((0, 0, 0, 0, 3), ((9, 0),), ()), 1), ((0, 0, 1), 3))
        self.assertEqual(saved(((0, 0, 0, 0, 3), ((0,), (9,)), ()), 1), ((0, 0, 2), 3))
        self.assertEqual(saved(((0, 0, 0, 0, 3), ((9,), (0,)), ()), 1), ((0, 0, 2), 3))
        self.assertEqual(saved(((0, 0, 0, 0, 3), ((0, 0), (0, 9)), ()), 1), ((0, 1, 2), 3))

    def test_a_wall_that_saves_another_cell_later_on(self):
        # Behind the wall in the west the first keeps its 4, and the second is never warmed by its air.
        house = ((0, 0, 0, 2, 9), ((4, 90),), ())
        self.assertEqual(saved(house, 2), ((0, 0, 3), 4))
        self.assertEqual(saved(house, 4), ((0, 0, 3), 22))
        # From the south more flows, but there the ice is lost by then all the same.
        self.assertEqual(saved(((3, 0, 5, 0, 0), ((8,),), ()), 2), ((0, 0, 2), 2))

    def test_no_face_that_has_a_wall(self):
        for told in ((0, 0, 1), (0, 1, 3)):
            self.assertEqual(saved(((0, 0, 0, 0, 3), ((9, 0, 9),), (told,)), 1), ((0, 1, 1), 3))

    def test_the_one_face_that_is_bare(self):
        rows, columns = 3, 2
        for face in all_walls(rows, columns):
            rest = [told_from_beyond(wall, rows, columns) for wall in all_walls(rows, columns) if wall != face]
            house = (HEATS, ((9, 0), (9, 9), (0, 9)), tuple(rest))
            with self.subTest(face=face):
                self.assertEqual(saved(house, 7)[0], face)

    def test_none_where_all_faces_have_walls(self):
        for rows in range(1, 5):
            for columns in range(1, 5):
                house = shut_in(rows, columns)
                beyond = tuple(told_from_beyond(wall, rows, columns) for wall in house[2])
                for hours in (0, 5, 10 ** 9):
                    self.assertIsNone(saved(house, hours))
                    self.assertIsNone(saved((house[0], house[1], beyond), hours))

    def test_hours_somewhat_beyond_the_limits_raise_nothing(self):
        self.assertEqual(saved((HEATS, ((100,),), ()), 10 ** 9 + 1), ((0, 0, 0), 0))
        self.assertEqual(saved((HEATS, ((100,),), ()), -1), ((0, 0, 0), 0))


class TestWorthOfWalls(unittest.TestCase):
    def test_against_the_words(self):
        for house in some_houses(40, 63, 30) + some_houses(3, 64, 400):
            for hours in (0, 1, 4, 11, 2000, 10 ** 9):
                with self.subTest(house=house, hours=hours):
                    self.hold(house, hours)

    def hold(self, house, hours):
        kept = hourly.total(hourly.left(house, hours))
        lost = [kept - hourly.total(hourly.left(without(house, at), hours)) for at in range(len(house[2]))]
        self.assertEqual(costs(house, hours), lost)
        first = min(range(len(lost)), key=lambda at: (-lost[at], at), default=None)
        self.assertEqual(dearest(house, hours), None if first is None else (first, lost[first]))
        more = {}
        for face in all_walls(len(house[1]), len(house[1][0])):
            beyond = told_from_beyond(face, len(house[1]), len(house[1][0]))
            if face not in house[2] and beyond not in house[2]:
                with_it = (house[0], house[1], house[2] + (face,))
                more[face] = hourly.total(hourly.left(with_it, hours)) - kept
        least = min(more, key=lambda face: (-more[face], face), default=None)
        self.assertEqual(saved(house, hours), None if least is None else (least, more[least]))

    def test_more_ice_and_more_walls_never_leave_less(self):
        for house in some_houses(60, 65, 9999):
            for hours in (1, 50, 700, 10 ** 9):
                with self.subTest(house=house, hours=hours):
                    self.assertGreaterEqual(min(costs(house, hours), default=0), 0)
                    told = saved(house, hours)
                    if told is not None:
                        walled = (house[0], house[1], house[2] + (told[0],))
                        self.assertGreaterEqual(told[1], 0)
                        self.assertEqual(total(left(walled, hours)), total(left(house, hours)) + told[1])

    def test_no_house_is_refused(self):
        for house in NO_HOUSES:
            for ask in (costs, dearest, saved):
                for hours in (0, 10 ** 9):
                    with self.subTest(house=house, asked=ask.__name__), self.assertRaises(BadHouse):
                        ask(house, hours)


if __name__ == "__main__":
    unittest.main()
