"""Point 5: spans, melted, traced, lasting."""

import unittest

import hourly
from hourly import some_houses
from icehouse.melting import lasting, left, melted, rates, spans, traced

HEATS = (1, 2, 3, 4, 5)
HOUSE = (HEATS, ((10, 0), (7, 20)), ())
# The first melts from the west, 2 an hour, and then the second from the first, 3 an hour;
# the last is shut off by a wall.
ROW = ((0, 0, 0, 2, 3), ((5, 7, 11),), ((0, 2, 3),))
# The outer two are empty behind the hours 2 and 4, and the middle one melts from both then;
# by air without heat it doesn't.
MIDDLE = ((0, 1, 0, 1, 5), ((2, 100, 4),), ())
MIDDLE_COLD = ((0, 1, 0, 1, 0), ((2, 100, 4),), ())


def as_tuples(rows):
    return tuple(tuple(row) for row in rows)


class TestSpans(unittest.TestCase):
    def test_by_hand(self):
        self.assertEqual(spans(HOUSE), [(0, ((10, 0), (7, 10))), (1, ((0, 0), (0, 15))), (2, ((0, 0), (0, 0)))])
        self.assertEqual(spans(ROW), [(0, ((2, 0, 0),)), (3, ((0, 3, 0),)), (6, ((0, 0, 0),))])
        self.assertEqual(
            spans(MIDDLE),
            [(0, ((1, 0, 1),)), (2, ((0, 5, 1),)), (4, ((0, 10, 0),)), (13, ((0, 0, 0),))],
        )

    def test_cells_that_are_empty_behind_the_same_hour_make_one_span(self):
        self.assertEqual(spans(((0, 1, 0, 1, 9), ((3, 3),), ())), [(0, ((1, 1),)), (3, ((0, 0),))])

    def test_one_span_where_nothing_melts(self):
        self.assertEqual(spans((HEATS, ((0, 0), (0, 0)), ())), [(0, ((0, 0), (0, 0)))])
        self.assertEqual(spans(((0,) * 5, ((5, 0),), ())), [(0, ((0, 0),))])

    def test_late_hours(self):
        slow = ((0, 0, 0, 1, 2), ((9999, 9999),), ())
        self.assertEqual(spans(slow), [(0, ((1, 0),)), (9999, ((0, 2),)), (9999 + 5000, ((0, 0),))])

    def test_begins_rise_and_neighbours_differ(self):
        for house in some_houses(200, 51, 60) + some_houses(100, 52, 9999):
            told = spans(house)
            with self.subTest(house=house):
                self.assertEqual(told[0], (0, as_tuples(rates(house))))
                for ahead, behind in zip(told, told[1:]):
                    self.assertLess(ahead[0], behind[0])
                    self.assertNotEqual(ahead[1], behind[1])

    def test_a_list_of_tuples(self):
        told = spans(HOUSE)
        self.assertIs(type(told), list)
        for begin, losses in told:
            self.assertIs(type(begin), int)
            self.assertIs(type(losses), tuple)
            self.assertEqual([type(row) for row in losses], [tuple, tuple])
        self.assertEqual([type(span) for span in told], [tuple] * 3)


class TestMelted(unittest.TestCase):
    def test_by_hand(self):
        self.assertEqual(melted(HOUSE), [(1, 0, 0), (1, 1, 0), (2, 1, 1)])
        self.assertEqual(melted(ROW), [(3, 0, 0), (6, 0, 1)])
        self.assertEqual(melted(MIDDLE), [(2, 0, 0), (4, 0, 2), (13, 0, 1)])
        self.assertEqual(melted(MIDDLE_COLD), [(2, 0, 0), (4, 0, 2)])

    def test_by_the_hour_ahead_of_the_place(self):
        self.assertEqual(melted((HEATS, ((99, 1), (1, 1)), ())), [(1, 0, 1), (1, 1, 0), (1, 1, 1), (8, 0, 0)])

    def test_the_hour_behind_which_it_is_empty_first(self):
        for parts, hour in ((1, 1), (10, 1), (11, 2), (20, 2), (21, 3), (9999, 1000)):
            self.assertEqual(melted((HEATS, ((parts,),), ())), [(hour, 0, 0)])

    def test_none_that_is_empty_at_first_and_none_that_lasts(self):
        self.assertEqual(melted((HEATS, ((0, 0), (0, 0)), ())), [])
        self.assertEqual(melted(((0,) * 5, ((5, 0),), ())), [])
        self.assertEqual(melted((HEATS, ((0, 1), (0, 0)), ())), [(1, 0, 1)])

    def test_a_list_of_tuples(self):
        told = melted(HOUSE)
        self.assertIs(type(told), list)
        self.assertEqual([type(row) for row in told], [tuple] * 3)


class TestTraced(unittest.TestCase):
    def test_by_hand(self):
        self.assertEqual(traced(HOUSE, 0, 0), [(0, 10, 10), (1, 0, 0)])
        self.assertEqual(traced(HOUSE, 1, 1), [(0, 20, 10), (1, 10, 15), (2, 0, 0)])
        self.assertEqual(traced(ROW, 0, 0), [(0, 5, 2), (3, 0, 0)])
        self.assertEqual(traced(ROW, 0, 1), [(0, 7, 0), (3, 7, 3), (6, 0, 0)])
        self.assertEqual(traced(MIDDLE, 0, 1), [(0, 100, 0), (2, 100, 5), (4, 90, 10), (13, 0, 0)])

    def test_no_row_where_others_become_empty_and_its_own_rate_stays(self):
        self.assertEqual(traced(MIDDLE, 0, 0), [(0, 2, 1), (2, 0, 0)])
        self.assertEqual(traced(MIDDLE, 0, 2), [(0, 4, 1), (4, 0, 0)])
        self.assertEqual(traced(MIDDLE_COLD, 0, 1), [(0, 100, 0)])
        self.assertEqual(traced(ROW, 0, 2), [(0, 11, 0)])
        apart = ((0, 1, 0, 1, 9), ((3, 50),), ((0, 0, 1),))
        self.assertEqual(traced(apart, 0, 1), [(0, 50, 1), (50, 0, 0)])

    def test_an_empty_cell(self):
        self.assertEqual(traced(HOUSE, 0, 1), [(0, 0, 0)])
        self.assertEqual(traced((HEATS, ((0,),), ()), 0, 0), [(0, 0, 0)])

    def test_a_list_of_tuples(self):
        told = traced(HOUSE, 1, 1)
        self.assertIs(type(told), list)
        self.assertEqual([type(row) for row in told], [tuple] * 3)


class TestLasting(unittest.TestCase):
    def test_by_hand(self):
        self.assertEqual(lasting(HOUSE), [])
        self.assertEqual(lasting(ROW), [(0, 2, 11)])
        self.assertEqual(lasting(MIDDLE), [])
        self.assertEqual(lasting(MIDDLE_COLD), [(0, 1, 100)])

    def test_with_what_each_has_at_last(self):
        # No open face is shut again, so what melts at all melts to its end, and what lasts has all it had.
        shut = ((0, 0, 1), (0, 1, 0), (0, 1, 1), (0, 1, 2), (1, 0, 0), (1, 0, 1), (1, 0, 2), (1, 0, 3))
        self.assertEqual(lasting(((9,) * 5, ((70, 30), (20, 10)), shut)), [(0, 1, 30), (1, 0, 20)])

    def test_in_order(self):
        cold = ((0,) * 5, ((4, 0, 3), (2, 1, 0)), ())
        self.assertEqual(lasting(cold), [(0, 0, 4), (0, 2, 3), (1, 0, 2), (1, 1, 1)])

    def test_a_list_of_tuples(self):
        told = lasting(ROW)
        self.assertIs(type(told), list)
        self.assertEqual([type(row) for row in told], [tuple])


class TestHourByHour(unittest.TestCase):
    def hold(self, house, hours):
        """Hold all four against the house as it stands at each hour."""
        with self.subTest(house=house):
            self.assertEqual(spans(house), hourly.spans(hours))
            self.assertEqual(melted(house), hourly.melted(hours))
            self.assertEqual(lasting(house), hourly.lasting(hours))
            for row, column in hourly.all_cells(house):
                self.assertEqual(traced(house, row, column), hourly.traced(hours, row, column))

    def test_against_left_at_each_hour(self):
        for house in some_houses(250, 53, 30) + some_houses(12, 54, 500):
            many = spans(house)[-1][0] + 3
            self.hold(house, [left(house, hour) for hour in range(many)])

    def test_against_the_words(self):
        for house in some_houses(250, 57, 30) + some_houses(12, 58, 500):
            self.hold(house, hourly.course(house))


class TestForEver(unittest.TestCase):
    def test_behind_the_last_span_nothing_melts(self):
        for house in some_houses(150, 55, 9999):
            begin, losses = spans(house)[-1]
            last = left(house, 10 ** 9)
            with self.subTest(house=house):
                self.assertEqual(left(house, begin), last)
                self.assertEqual(set(rate for row in losses for rate in row), {0})
                self.assertEqual(lasting(house), hourly.lasting([last]))

    def test_each_cell_with_ice_melts_or_lasts(self):
        for house in some_houses(150, 56, 9999):
            ends = [row[1:] for row in melted(house)] + [row[:2] for row in lasting(house)]
            with_ice = [place for place in hourly.all_cells(house) if house[1][place[0]][place[1]]]
            with self.subTest(house=house):
                self.assertEqual(sorted(ends), with_ice)


if __name__ == "__main__":
    unittest.main()
