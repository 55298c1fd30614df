"""Point 2: what a house is. Point 6: total."""

import unittest

from asked import ASKED
from hourly import all_walls, some_houses, told_from_beyond
from icehouse import houses
from icehouse.errors import BadHouse
from icehouse.houses import need_house, total
from icehouse.melting import left, open_faces, traced

HEATS = (1, 2, 3, 4, 5)
CELLS = ((10, 0, 30), (7, 20, 9999))
WALLS = ((0, 0, 1), (1, 1, 2), (1, 2, 0))
HOUSE = (HEATS, CELLS, WALLS)

FORTY = tuple(all_walls(4, 4))
FORTY_FROM_BEYOND = tuple(told_from_beyond(wall, 4, 4) for wall in FORTY)
FULL = ((9999,) * 4,) * 4

BOUNDS = (
    ("one row and one column, all 0", ((0,) * 5, ((0,),), ())),
    ("one cell with all parts", ((9,) * 5, ((9999,),), ())),
    ("one cell with four walls", ((9,) * 5, ((1,),), ((0, 0, 0), (0, 0, 1), (0, 0, 2), (0, 0, 3)))),
    ("one row of four", (HEATS, ((0, 1, 9998, 9999),), ((0, 3, 1),))),
    ("four rows of one", (HEATS, ((0,), (1,), (9998,), (9999,)), ((3, 0, 2),))),
    ("four rows and columns, no walls", ((9,) * 5, FULL, ())),
    ("four rows and columns, forty walls", ((9,) * 5, FULL, FORTY)),
    ("forty walls from the other cells", ((0,) * 5, FULL, FORTY_FROM_BEYOND)),
    ("walls in any order", (HEATS, FULL, FORTY[::-1])),
    ("unlike heats", ((0, 9, 0, 9, 1), ((5, 6),), ())),
    ("both sides of a cell", (HEATS, ((1, 1),), ((0, 0, 1), (0, 1, 1), (0, 0, 3)))),
)

# None of these is a number at all, so none is one anywhere in a house.
NO_NUMBERS = (-1, -10 ** 30, 10 ** 30, None, True, False, "", "1", b"1", (), (1,), [1], {}, {1})
NO_TUPLES = ([], "", "abc", b"abc", None, True, False, 0, 7, {}, set())


def with_item(items, at, item):
    return items[:at] + (item,) + items[at + 1:]


def bad_wholes():
    for item in NO_TUPLES:
        yield item
    yield list(HOUSE)
    yield ()
    yield HOUSE[:1]
    yield HOUSE[:2]
    yield HOUSE + ((),)
    yield (CELLS, HEATS, WALLS)


def bad_heats():
    for item in NO_TUPLES:
        yield item
    yield list(HEATS)
    yield "12345"
    yield b"12345"
    yield {1: 1, 2: 2, 3: 3, 4: 4, 5: 5}
    yield ()
    yield HEATS[:4]
    yield HEATS + (6,)
    for at in range(5):
        for number in NO_NUMBERS + (10,):
            yield with_item(HEATS, at, number)


def bad_cells():
    for item in NO_TUPLES:
        yield item
    yield list(CELLS)
    yield ()
    yield ((1,),) * 5
    yield ((1, 2),) * 5
    yield ((1, 2, 3, 4, 5),)
    yield ((1, 2, 3, 4, 5),) * 4
    yield ((),)
    yield ((), ())
    yield ((1,), ())
    yield ((), (1,))
    yield ((1, 2, 3), (4, 5))
    yield ((4, 5), (1, 2, 3))
    yield ((1,), (2,), (3,), (4, 5))
    for at in range(2):
        yield with_item(CELLS, at, list(CELLS[at]))
        for item in NO_TUPLES:
            yield with_item(CELLS, at, item)
        for column in range(3):
            for number in NO_NUMBERS + (10000,):
                yield with_item(CELLS, at, with_item(CELLS[at], column, number))


def bad_walls():
    for item in NO_TUPLES:
        yield item
    yield list(WALLS)
    yield {(0, 0, 1): True}
    for at in range(3):
        wall = WALLS[at]
        for item in NO_TUPLES + ((), wall[:1], wall[:2], wall + (0,), list(wall), "001"):
            yield with_item(WALLS, at, item)
        for place in range(3):
            beyond = (2, 3, 4)[place]
            for number in NO_NUMBERS + (beyond,):
                yield with_item(WALLS, at, with_item(wall, place, number))
    for again in (WALLS[0], (0, 1, 3), WALLS[1], WALLS[2], (0, 2, 2)):
        yield WALLS + (again,)
        yield (again,) + WALLS


def bad_houses():
    for whole in bad_wholes():
        yield whole
    for heats in bad_heats():
        yield (heats, CELLS, WALLS)
        yield (heats, CELLS, ())
    for cells in bad_cells():
        yield (HEATS, cells, ())
        yield (HEATS, cells, ((0, 0, 0),))
    for walls in bad_walls():
        yield (HEATS, CELLS, walls)
    for wall in FORTY + FORTY_FROM_BEYOND:
        yield (HEATS, FULL, FORTY + (wall,))
        yield (HEATS, FULL, (wall, wall))
    yield (HEATS, FULL, FORTY + FORTY_FROM_BEYOND)
    yield (HEATS, FULL, FORTY + ((4, 0, 0),))
    for wall in FORTY:
        beyond = told_from_beyond(wall, 4, 4)
        yield (HEATS, FULL, (wall, (0, 0, 0) if wall != (0, 0, 0) else (1, 1, 1), beyond))
        yield (HEATS, FULL, (beyond, wall))


class TestHouses(unittest.TestCase):
    def test_the_interface_is_defined_in_its_file(self):
        for name in ("need_house", "total"):
            self.assertEqual(getattr(houses, name).__module__, "icehouse.houses")

    def test_houses_at_the_bounds_are_let_by(self):
        for words, house in BOUNDS:
            for name, ask in ASKED:
                with self.subTest(house=words, asked=name):
                    ask(house)

    def test_need_house_tells_none(self):
        for words, house in BOUNDS:
            with self.subTest(house=words):
                self.assertIsNone(need_house(house))
        for house in some_houses(100, 21, 9999):
            self.assertIsNone(need_house(house))

    def test_whatever_is_no_house_is_refused_by_each(self):
        for house in bad_houses():
            for name, ask in ASKED:
                with self.subTest(house=house, asked=name), self.assertRaises(BadHouse):
                    ask(house)

    def test_no_house_is_refused_ahead_of_no_cell(self):
        for house in (None, (HEATS, CELLS, ((0, 0, 4),)), (HEATS, (), ())):
            for ask in (open_faces, traced):
                with self.subTest(house=house), self.assertRaises(BadHouse):
                    ask(house, 9, -9)

    def test_no_house_is_refused_whatever_the_hours(self):
        for hours in (0, 1, 10 ** 9):
            with self.subTest(hours=hours), self.assertRaises(BadHouse):
                left((HEATS, CELLS, ((0, 0, 0), (0, 0, 0))), hours)

    def test_more_than_forty_walls_are_refused_like_all_else(self):
        self.assertEqual(len(FORTY), 40)
        for many in (41, 80, 1000):
            with self.subTest(many=many), self.assertRaises(BadHouse):
                need_house((HEATS, FULL, ((0, 0, 0),) * many))


class TestTotal(unittest.TestCase):
    def test_all_parts_together(self):
        self.assertEqual(total(HOUSE), 10 + 30 + 7 + 20 + 9999)
        self.assertEqual(total((HEATS, ((0,),), ())), 0)
        self.assertEqual(total((HEATS, ((5,),), ())), 5)
        self.assertEqual(total((HEATS, ((1,), (20,), (300,), (4000,)), ())), 4321)
        self.assertEqual(total((HEATS, ((1, 20, 300, 4000),), ())), 4321)
        self.assertEqual(total((HEATS, FULL, FORTY)), 16 * 9999)

    def test_it_is_a_number(self):
        for words, house in BOUNDS:
            with self.subTest(house=words):
                self.assertIs(type(total(house)), int)


if __name__ == "__main__":
    unittest.main()
