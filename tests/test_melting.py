"""Points 3 and 4: open faces, rates, what is left."""

import unittest

import hourly
from hourly import some_houses
from icehouse import melting
from icehouse.errors import NoSuch
from icehouse.melting import left, open_faces, rates, traced

HEATS = (1, 2, 3, 4, 5)
HOUSE = (HEATS, ((10, 0), (7, 20)), ())


def alone(parts, walls=(), heats=HEATS):
    return (heats, ((parts,),), tuple((0, 0, side) for side in walls))


class TestOpenFaces(unittest.TestCase):
    def test_faces_to_the_outside_by_sides_with_their_heats(self):
        self.assertEqual(open_faces(alone(9), 0, 0), [(0, 1), (1, 2), (2, 3), (3, 4)])
        self.assertEqual(open_faces(alone(1, (), (9, 0, 7, 0, 5)), 0, 0), [(0, 9), (1, 0), (2, 7), (3, 0)])

    def test_a_wall_shuts_a_face_to_the_outside(self):
        for side in range(4):
            rest = [(other, HEATS[other]) for other in range(4) if other != side]
            self.assertEqual(open_faces(alone(9, (side,)), 0, 0), rest)
        self.assertEqual(open_faces(alone(9, (3, 1)), 0, 0), [(0, 1), (2, 3)])
        self.assertEqual(open_faces(alone(9, (0, 1, 2, 3)), 0, 0), [])

    def test_a_face_to_an_empty_cell_has_the_heat_of_the_air(self):
        self.assertEqual(open_faces(HOUSE, 0, 0), [(0, 1), (1, 5), (3, 4)])
        self.assertEqual(open_faces(HOUSE, 1, 1), [(0, 5), (1, 2), (2, 3)])
        round_about = (HEATS, ((0, 0, 0), (0, 1, 0), (0, 0, 0)), ())
        self.assertEqual(open_faces(round_about, 1, 1), [(0, 5), (1, 5), (2, 5), (3, 5)])

    def test_a_face_to_ice_is_not_open(self):
        self.assertEqual(open_faces(HOUSE, 1, 0), [(2, 3), (3, 4)])
        full = (HEATS, ((1, 1, 1), (1, 1, 1), (1, 1, 1)), ())
        self.assertEqual(open_faces(full, 1, 1), [])
        self.assertEqual(open_faces(full, 0, 2), [(0, 1), (1, 2)])
        self.assertEqual(open_faces(full, 2, 1), [(2, 3)])

    def test_a_wall_shuts_a_face_to_an_empty_cell_from_either_cell(self):
        cells = ((0, 0, 0), (0, 1, 0), (0, 0, 0))
        beyond = ((0, 1, 2), (1, 2, 3), (2, 1, 0), (1, 0, 1))
        for side in range(4):
            rest = [(other, 5) for other in range(4) if other != side]
            for wall in ((1, 1, side), beyond[side]):
                with self.subTest(wall=wall):
                    self.assertEqual(open_faces((HEATS, cells, (wall,)), 1, 1), rest)
        self.assertEqual(open_faces((HEATS, cells, beyond), 1, 1), [])

    def test_a_wall_shuts_no_other_face(self):
        far = ((0, 0, 0), (0, 0, 1), (0, 0, 2), (0, 0, 3), (0, 1, 1))
        self.assertEqual(open_faces((HEATS, ((0, 0), (0, 1)), far), 1, 1), [(0, 5), (1, 2), (2, 3), (3, 5)])

    def test_faces_of_heat_0_are_told(self):
        self.assertEqual(open_faces(((0,) * 5, ((3, 0),), ()), 0, 0), [(0, 0), (1, 0), (2, 0), (3, 0)])

    def test_none_of_an_empty_cell(self):
        self.assertEqual(open_faces(HOUSE, 0, 1), [])
        self.assertEqual(open_faces(alone(0), 0, 0), [])

    def test_no_such_cell(self):
        beyond = ((-1, 0), (-1, 1), (0, 2), (1, 2), (2, 0), (2, 1), (0, -1), (1, -1), (-1, -1), (2, 2))
        for row, column in beyond + ((0, 4), (4, 0), (-2, 0), (0, -2), (10 ** 9, 0), (0, -10 ** 9)):
            for ask in (open_faces, traced):
                with self.subTest(row=row, column=column), self.assertRaises(NoSuch):
                    ask(HOUSE, row, column)

    def test_no_such_cell_where_rows_and_columns_are_of_unlike_number(self):
        long = (HEATS, ((1, 2, 3),), ())
        high = (HEATS, ((1,), (2,), (3,)), ())
        for ask in (open_faces, traced):
            self.assertTrue(ask(long, 0, 2))
            self.assertTrue(ask(high, 2, 0))
            with self.assertRaises(NoSuch):
                ask(long, 1, 0)
            with self.assertRaises(NoSuch):
                ask(high, 0, 1)

    def test_against_the_words(self):
        for house in some_houses(300, 31, 4):
            for row, column in hourly.all_cells(house):
                with self.subTest(house=house, row=row, column=column):
                    self.assertEqual(open_faces(house, row, column), hourly.faces(house, row, column))


class TestRates(unittest.TestCase):
    def test_all_heats_of_a_cell_together(self):
        self.assertEqual(rates(HOUSE), [[10, 0], [7, 10]])
        self.assertEqual(rates(alone(9)), [[10]])
        self.assertEqual(rates(alone(9, (1, 3))), [[4]])
        self.assertEqual(rates((HEATS, ((1, 1, 1), (1, 1, 1), (1, 1, 1)), ())), [[5, 1, 3], [4, 0, 2], [7, 3, 5]])

    def test_0_for_an_empty_cell(self):
        self.assertEqual(rates(alone(0)), [[0]])
        self.assertEqual(rates(((9,) * 5, ((0, 0), (0, 0)), ())), [[0, 0], [0, 0]])

    def test_0_where_all_faces_are_shut_or_cold(self):
        self.assertEqual(rates(alone(9, (0, 1, 2, 3))), [[0]])
        self.assertEqual(rates(((0, 0, 0, 0, 9), ((5, 5),), ())), [[0, 0]])

    def test_a_cell_with_fewer_parts_would_lose_them_all_if_it_had_enough(self):
        self.assertEqual(rates(((9,) * 5, ((1,),), ())), [[36]])

    def test_a_list_of_lists(self):
        told = rates(HOUSE)
        self.assertIs(type(told), list)
        self.assertEqual([type(row) for row in told], [list, list])

    def test_against_the_words(self):
        for house in some_houses(300, 32, 4):
            with self.subTest(house=house):
                self.assertEqual(rates(house), hourly.rates(house))


class TestLeft(unittest.TestCase):
    def test_behind_0_hours(self):
        self.assertEqual(left(HOUSE, 0), HOUSE)
        for house in some_houses(50, 33, 9999):
            self.assertEqual(left(house, 0), house)

    def test_behind_few_hours(self):
        self.assertEqual(left(HOUSE, 1), (HEATS, ((0, 0), (0, 10)), ()))
        self.assertEqual(left(HOUSE, 2), (HEATS, ((0, 0), (0, 0)), ()))
        self.assertEqual(left(HOUSE, 3), (HEATS, ((0, 0), (0, 0)), ()))

    def test_a_cell_with_fewer_parts_than_it_would_lose_is_empty_then(self):
        self.assertEqual(left(alone(9), 1), alone(0))
        self.assertEqual(left(alone(10), 1), alone(0))
        self.assertEqual(left(alone(11), 1), alone(1))
        self.assertEqual(left(alone(11), 2), alone(0))

    def test_heat_0_melts_nothing(self):
        cold = ((0,) * 5, ((1, 0, 7),), ())
        self.assertEqual(left(cold, 10 ** 9), cold)

    def test_all_cells_at_once_by_how_they_stand_at_the_begin(self):
        # The first is empty behind an hour; only from then on does the air reach the second.
        row = ((0, 0, 0, 1, 5), ((1, 100, 100),), ())
        self.assertEqual(left(row, 1)[1], ((0, 100, 100),))
        self.assertEqual(left(row, 2)[1], ((0, 95, 100),))
        # Both are empty behind the same hour, and neither warms the other in it.
        pair = ((0, 1, 0, 1, 9), ((3, 3),), ())
        self.assertEqual(left(pair, 2)[1], ((1, 1),))
        self.assertEqual(left(pair, 3)[1], ((0, 0),))

    def test_a_wall_between_keeps_the_air_out(self):
        for wall in ((0, 0, 1), (0, 1, 3)):
            row = ((0, 0, 0, 1, 5), ((1, 100),), (wall,))
            self.assertEqual(left(row, 1000)[1], ((0, 100),))

    def test_behind_thousands_of_hours(self):
        slow = ((0, 0, 0, 1, 2), ((9999, 9999),), ())
        self.assertEqual(left(slow, 9998)[1], ((1, 9999),))
        self.assertEqual(left(slow, 9999)[1], ((0, 9999),))
        self.assertEqual(left(slow, 10000)[1], ((0, 9997),))
        self.assertEqual(left(slow, 9999 + 4999)[1], ((0, 1),))
        self.assertEqual(left(slow, 9999 + 5000)[1], ((0, 0),))

    def test_behind_all_hours(self):
        shut = ((1, 1, 1, 1, 1), ((50, 9999),), ((0, 1, 0), (0, 1, 1), (0, 1, 2), (0, 1, 3)))
        self.assertEqual(left(shut, 10 ** 9), (shut[0], ((0, 9999),), shut[2]))
        self.assertEqual(left(HOUSE, 10 ** 9), left(HOUSE, 2))

    def test_hours_somewhat_beyond_the_limits_raise_nothing(self):
        self.assertEqual(left(HOUSE, 10 ** 9 + 1), left(HOUSE, 2))
        self.assertEqual(left(HOUSE, -1), HOUSE)

    def test_heats_and_walls_stay_as_they_are(self):
        walls = ((1, 1, 2), (0, 1, 3), (0, 0, 0))
        told = left((HEATS, ((10, 0), (7, 20)), walls), 1)
        self.assertEqual((told[0], told[2]), (HEATS, walls))

    def test_a_house_of_tuples(self):
        for hours in (0, 1, 5, 10 ** 9):
            told = left(HOUSE, hours)
            self.assertEqual([type(part) for part in (told, *told)], [tuple] * 4)
            self.assertEqual([type(row) for row in told[1]], [tuple, tuple])

    def test_some_hours_and_then_some_more(self):
        for house in some_houses(120, 34, 60) + some_houses(40, 35, 9999):
            for hours, more in ((0, 0), (0, 3), (1, 1), (2, 5), (7, 20), (100, 900), (1, 10 ** 9), (10 ** 9, 1)):
                with self.subTest(house=house, hours=hours, more=more):
                    self.assertEqual(left(left(house, hours), more), left(house, hours + more))

    def test_hour_by_hour(self):
        for house in some_houses(200, 36, 40) + some_houses(12, 37, 600):
            course = hourly.course(house)
            with self.subTest(house=house):
                self.assertEqual([left(house, hour) for hour in range(len(course))], course)
                self.assertEqual(left(house, len(course)), course[-1])
                self.assertEqual(left(house, 10 ** 9), course[-1])


class TestInterface(unittest.TestCase):
    def test_the_interface_is_defined_in_its_file(self):
        for name in ("rates", "left", "open_faces", "spans", "melted", "traced", "lasting"):
            self.assertEqual(getattr(melting, name).__module__, "icehouse.melting")


if __name__ == "__main__":
    unittest.main()
