"""Point 11: houses written and read."""

import random
import re
import unittest

from hourly import all_walls, some_houses, told_from_beyond
from icehouse.errors import BadHouse, BadText
from icehouse.houses import need_house
from icehouse.texts import read, written

HEATS = (1, 0, 3, 4, 9)
HOUSE = (HEATS, ((10, 0), (7, 9999)), ((0, 0, 1), (1, 1, 0), (0, 1, 0)))
TEXT = "heats 1 0 3 4 9\nrow 10 0\nrow 7 9999\nwall 0 0 1\nwall 1 1 0\nwall 0 1 0"
FORTY = tuple(all_walls(4, 4))

BOUNDS = (
    (((0,) * 5, ((0,),), ()), "heats 0 0 0 0 0\nrow 0"),
    (((9,) * 5, ((9999,),), ()), "heats 9 9 9 9 9\nrow 9999"),
    ((HEATS, ((0, 1, 10, 100),), ()), "heats 1 0 3 4 9\nrow 0 1 10 100"),
    ((HEATS, ((1,), (10,), (100,), (1000,)), ()), "heats 1 0 3 4 9\nrow 1\nrow 10\nrow 100\nrow 1000"),
    ((HEATS, ((5,),), ((0, 0, 3), (0, 0, 0))), "heats 1 0 3 4 9\nrow 5\nwall 0 0 3\nwall 0 0 0"),
    (
        (HEATS, ((9999,) * 4,) * 4, FORTY),
        "\n".join(["heats 1 0 3 4 9"] + ["row 9999 9999 9999 9999"] * 4 + ["wall {} {} {}".format(*w) for w in FORTY]),
    ),
)

# A number is written so; rows and texts are built of it as the document says.
NUMBER = "(?:0|[1-9][0-9]{0,3})"
GOOD = re.compile(f"heats(?: {NUMBER}){{5}}(?:\nrow(?: {NUMBER})+)*(?:\nwall(?: {NUMBER}){{3}})*")


def rows_with(at, row):
    """The rows of the text, one of them being another one."""
    rows = TEXT.split("\n")
    rows[at] = row
    return "\n".join(rows)


def rows_plus(at, row):
    """The rows of the text with one more ahead of one of them."""
    rows = TEXT.split("\n")
    rows.insert(at, row)
    return "\n".join(rows)


class TestWritten(unittest.TestCase):
    def test_row_by_row(self):
        self.assertEqual(written(HOUSE), TEXT)
        self.assertEqual(written((HEATS, ((5, 6, 7),), ())), "heats 1 0 3 4 9\nrow 5 6 7")

    def test_at_the_bounds(self):
        for house, text in BOUNDS:
            with self.subTest(text=text):
                self.assertEqual(written(house), text)

    def test_walls_in_their_order_as_they_are_told(self):
        walls = ((1, 1, 3), (0, 0, 0), (1, 0, 0))
        for order in (walls, walls[::-1]):
            rows = written((HEATS, ((5, 5), (5, 5)), order)).split("\n")
            self.assertEqual(rows[3:], [f"wall {row} {column} {side}" for row, column, side in order])

    def test_what_is_written_is_of_good_rows(self):
        for house in some_houses(100, 111, 9999):
            self.assertIsNotNone(GOOD.fullmatch(written(house)))
            self.assertIs(type(written(house)), str)

    def test_no_house_is_refused(self):
        for house in (None, TEXT, [], (HEATS, (), ()), (HEATS, ((10000,),), ()), (HEATS, ((1,),), ((0, 0, 4),))):
            with self.subTest(house=house), self.assertRaises(BadHouse):
                written(house)


class TestRead(unittest.TestCase):
    def test_by_hand(self):
        self.assertEqual(read(TEXT), HOUSE)
        for house, text in BOUNDS:
            with self.subTest(text=text):
                self.assertEqual(read(text), house)

    def test_what_is_written_is_read_to_the_same_house(self):
        for house in some_houses(150, 112, 9999):
            with self.subTest(house=house):
                self.assertEqual(read(written(house)), house)
                self.assertEqual(written(read(written(house))), written(house))

    def test_walls_from_either_cell_stay_as_they_are_told(self):
        beyond = tuple(told_from_beyond(wall, 4, 4) for wall in FORTY)
        for walls in (FORTY, beyond, beyond[::-1]):
            house = (HEATS, ((9999,) * 4,) * 4, walls)
            self.assertEqual(read(written(house)), house)

    def test_tuples_of_whole_numbers(self):
        heats, cells, walls = told = read(TEXT)
        for part in (told, heats, cells, *cells, walls, *walls):
            self.assertIs(type(part), tuple)
        for number in (*heats, *cells[0], *cells[1], *walls[0]):
            self.assertIs(type(number), int)
        self.assertIs(type(read("heats 0 0 0 0 0\nrow 0")[2]), tuple)


class TestBadTexts(unittest.TestCase):
    def refuse(self, *texts):
        for text in texts:
            with self.subTest(text=text), self.assertRaises(BadText):
                read(text)

    def test_the_empty_text_and_blank_ones(self):
        self.refuse("", " ", "  ", "\n", "\n\n", " \n ")

    def test_no_heats(self):
        self.refuse("row 5", "wall 0 0 0", "row 5\nwall 0 0 0", TEXT.split("\n", 1)[1])

    def test_heats_twice(self):
        self.refuse(*[rows_plus(at, "heats 1 0 3 4 9") for at in range(7)])
        self.refuse("heats 1 2 3 4 5\nheats 1 2 3 4 5", "heats 1 2 3 4 5\nheats 5 4 3 2 1\nrow 5")

    def test_heats_not_first(self):
        self.refuse("row 5\nheats 1 2 3 4 5", "wall 0 0 0\nheats 1 2 3 4 5\nrow 5", "row 5\nheats 1 2 3 4 5\nwall 0 0 0")

    def test_a_row_behind_a_wall(self):
        self.refuse("heats 1 2 3 4 5\nwall 0 0 0\nrow 5", "heats 1 2 3 4 5\nrow 5\nwall 0 0 0\nrow 6")
        self.refuse("heats 1 2 3 4 5\nrow 5\nwall 0 0 0\nrow 6\nwall 1 0 0")

    def test_other_words(self):
        for word in ("heat", "Heats", "HEATS", "heatss", "h", "1", "", "row", "wall", "#"):
            self.refuse(rows_with(0, word + " 1 0 3 4 9"))
        for word in ("rows", "Row", "ROW", "ro", "cells", "0", "", "#", "-", "heats"):
            self.refuse(rows_with(2, word + " 7 9999"))
        for word in ("walls", "Wall", "WALL", "wal", "face", "0", "", "heats"):
            self.refuse(rows_with(3, word + " 0 0 1"))
        self.refuse("heats1 0 3 4 9\nrow 5", "heats 1 0 3 4 9\nrow5", rows_with(3, "wall0 0 1"))
        self.refuse(rows_plus(1, "#"), rows_plus(6, "end"), TEXT + "\nwalls", TEXT.upper())

    def test_another_count_of_numbers(self):
        self.refuse("heats\nrow 5", "heats 1\nrow 5", "heats 1 2 3 4\nrow 5", "heats 1 2 3 4 5 6\nrow 5")
        self.refuse(rows_with(1, "row"), rows_with(2, "row"), "heats 1 2 3 4 5\nrow", rows_plus(3, "row"))
        self.refuse(*[rows_with(at, "wall" + " 0" * many) for at in (3, 4, 5) for many in (0, 1, 2, 4, 5)])

    def test_what_is_no_number(self):
        wrong = ["x", "1x", "x1", "one", "1.0", "1.", "1e1", "0x1", "1_0", "1,0", "#", "'1'", "None", "True", "()"]
        self.refuse_for_numbers(wrong)

    def test_a_sign(self):
        self.refuse_for_numbers(["+1", "-1", "-0", "+0", "1-", "--1", "+", "-"])

    def test_leading_noughts(self):
        self.refuse_for_numbers(["00", "01", "000", "007", "0000", "0001", "0010"])

    def test_more_than_four_figures(self):
        self.refuse_for_numbers(["10000", "99999", "00000", "00001", "123456789", "1" * 5000])

    def test_figures_of_other_scripts(self):
        self.refuse_for_numbers(["\u0661", "\u00b2", "\uff11", "1\u0662"])

    def refuse_for_numbers(self, words):
        """Each in each kind of row, at each place."""
        for word in words:
            for at in range(5):
                heats = ["1", "0", "3", "4", "9"]
                heats[at] = word
                self.refuse(rows_with(0, " ".join(["heats", *heats])))
            self.refuse(rows_with(1, f"row {word} 0"), rows_with(1, f"row 0 {word}"), f"heats 1 2 3 4 5\nrow {word}")
            self.refuse(*[rows_with(4, f"wall {wall}") for wall in (f"{word} 1 0", f"1 {word} 0", f"1 1 {word}")])

    def test_two_blanks(self):
        rows = TEXT.split("\n")
        for at, row in enumerate(rows):
            for blank in range(row.count(" ")):
                parts = row.split(" ")
                doubled = " ".join(parts[:blank + 1]) + "  " + " ".join(parts[blank + 1:])
                self.refuse(rows_with(at, doubled))

    def test_blanks_at_an_end(self):
        for at, row in enumerate(TEXT.split("\n")):
            self.refuse(rows_with(at, row + " "), rows_with(at, " " + row), rows_with(at, " " + row + " "))
        self.refuse("heats 1 2 3 4 5\nrow ", "heats 1 2 3 4 5\nrow  ", "heats 1 2 3 4 5 \nrow 5")

    def test_an_empty_row_between(self):
        self.refuse(*[rows_plus(at, "") for at in range(6)])
        self.refuse(*[rows_plus(at, " ") for at in range(6)])

    def test_a_line_end_at_an_end(self):
        self.refuse(TEXT + "\n", TEXT + "\n\n", TEXT + "\n ", "\n" + TEXT, "heats 1 2 3 4 5\n", "heats 1 2 3 4 5\nrow 5\n")

    def test_rows_that_are_not_parted_by_line_ends(self):
        self.refuse(TEXT.replace("\n", " "), TEXT.replace("\n", ";"), TEXT.replace("\n", ""), TEXT.replace(" ", "\n"))
        self.refuse(TEXT.replace("\n", "\r\n"), TEXT.replace("\n", "\r"), TEXT.replace(" ", "\t"))

    def test_other_rows_are_refused_ahead_of_no_house(self):
        self.refuse("heats 10 2 3 4 5\nrow x", "heats 1 2 3 4 5\nrow 1\nrow 1 2\nrow", "heats 1 2 3 4 5\nwall 9 9 9\n")
        self.refuse("heats 10 2 3 4 5\nheats 10 2 3 4 5", "heats 1 2 3 4 5\nrow 1\nwall 0 0 4\nwall 0 0", "wall 9 9 9")
        self.refuse("heats 1 2 3 4 5\nrow 1\nwall 0 0 0\nwall 0 0 0\nrow 1")


class TestGoodRowsOfNoHouse(unittest.TestCase):
    def refuse(self, *texts):
        for text in texts:
            with self.subTest(text=text), self.assertRaises(BadHouse):
                read(text)

    def test_no_row(self):
        self.refuse("heats 1 2 3 4 5", "heats 1 2 3 4 5\nwall 0 0 0", "heats 0 0 0 0 0")

    def test_unlike_rows(self):
        self.refuse("heats 1 2 3 4 5\nrow 1\nrow 1 2", "heats 1 2 3 4 5\nrow 1 2\nrow 1", rows_with(1, "row 1 2 3"))
        self.refuse(rows_with(3, "row 0 0 1"))

    def test_a_heat_beyond_9(self):
        for at in range(5):
            for heat in ("10", "99", "100", "9999"):
                heats = ["0"] * 5
                heats[at] = heat
                self.refuse(" ".join(["heats", *heats]) + "\nrow 5")

    def test_too_many_rows_or_columns(self):
        self.refuse("heats 1 2 3 4 5" + "\nrow 1" * 5, "heats 1 2 3 4 5" + "\nrow 1" * 50)
        self.refuse("heats 1 2 3 4 5\nrow 1 2 3 4 5", "heats 1 2 3 4 5\nrow" + " 1" * 500)

    def test_a_wall_of_no_cell(self):
        for wall in ("2 0 0", "0 2 0", "0 0 4", "9999 0 0", "0 9999 0", "0 0 9999", "2 2 0"):
            self.refuse(rows_with(4, "wall " + wall), "heats 1 2 3 4 5\nrow 1 2\nrow 1 2\nwall " + wall)

    def test_a_wall_twice(self):
        self.refuse(TEXT + "\nwall 0 0 1", TEXT + "\nwall 0 1 3", TEXT + "\nwall 0 1 2", TEXT + "\nwall 0 1 0")
        self.refuse("\n".join([written((HEATS, ((1,) * 4,) * 4, FORTY)), "wall 0 0 0"]))
        self.refuse("heats 1 2 3 4 5\nrow 5" + "\nwall 0 0 0" * 41)


class TestAgainstTheWords(unittest.TestCase):
    def test_changed_texts(self):
        dice = random.Random(113)
        seen = {"house": 0, "text": 0, "no house": 0}
        for house in some_houses(120, 114, 99):
            for _ in range(25):
                text = self.some_change(dice, written(house))
                with self.subTest(text=text):
                    seen[self.hold(text)] += 1
        self.assertGreater(min(seen.values()), 100)

    def some_change(self, dice, text):
        kind = dice.randrange(4)
        rows = text.split("\n")
        if kind == 0:
            rows[dice.randrange(len(rows))] = dice.choice(rows)
            return "\n".join(rows)
        if kind == 1:
            dice.shuffle(rows)
            return "\n".join(rows)
        at = dice.randrange(len(text))
        behind = at + 1 if kind == 2 else at
        return text[:at] + dice.choice("0123456789 \n-+wr") + text[behind:]

    def hold(self, text):
        """Hold what read tells of a text against the rows' form, and tell what it is."""
        if GOOD.fullmatch(text) is None:
            with self.assertRaises(BadText):
                read(text)
            return "text"
        rows = [row.split(" ") for row in text.split("\n")]
        heats, *cells = [tuple(int(word) for word in row[1:]) for row in rows if row[0] != "wall"]
        house = (heats, tuple(cells), tuple(tuple(int(word) for word in row[1:]) for row in rows if row[0] == "wall"))
        try:
            need_house(house)
        except BadHouse:
            with self.assertRaises(BadHouse):
                read(text)
            return "no house"
        self.assertEqual(read(text), house)
        return "house"


if __name__ == "__main__":
    unittest.main()
