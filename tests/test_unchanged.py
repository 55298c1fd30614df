"""Point 1: whole numbers, nothing handed in is changed, told lists are free to change, and answers stay."""

import copy
import unittest

from asked import ASKED
from hourly import some_houses
from icehouse.errors import NoSuch
from icehouse.melting import open_faces, traced

HOUSES = some_houses(60, 71, 50) + some_houses(20, 72, 9999)


def spoil(told):
    """Change all lists within what was told."""
    if isinstance(told, (list, tuple)):
        for item in told:
            spoil(item)
    if isinstance(told, list):
        told.reverse()
        told.append("spoilt")
        told[0] = "spoilt"


def leaves(told):
    if isinstance(told, (list, tuple)):
        return [leaf for item in told for leaf in leaves(item)]
    return [told]


class TestUnchanged(unittest.TestCase):
    def test_what_is_handed_in_is_as_it_was(self):
        for house in HOUSES:
            before = copy.deepcopy(house)
            for name, ask in ASKED:
                ask(house)
                with self.subTest(house=before, asked=name):
                    self.assertEqual(house, before)

    def test_what_is_handed_in_is_as_it_was_behind_a_refusal(self):
        for house in ([[1, 2], [3]], ((1, 2, 3, 4, 5), [[1], [2]], []), {"heats": [1]}):
            before = copy.deepcopy(house)
            for name, ask in ASKED:
                with self.subTest(house=before, asked=name):
                    with self.assertRaises(ValueError):
                        ask(house)
                    self.assertEqual(house, before)

    def test_a_list_that_was_told_may_be_changed(self):
        for house in HOUSES:
            for name, ask in ASKED:
                first = ask(house)
                kept = copy.deepcopy(first)
                spoil(first)
                with self.subTest(house=house, asked=name):
                    self.assertEqual(ask(house), kept)

    def test_lists_that_were_told_share_nothing(self):
        for house in HOUSES:
            for name, ask in ASKED:
                first, second = ask(house), ask(house)
                kept = copy.deepcopy(second)
                spoil(first)
                with self.subTest(house=house, asked=name):
                    self.assertEqual(second, kept)

    def test_the_rows_of_one_list_share_nothing(self):
        rates = dict(ASKED)["rates"]
        told = rates(((1,) * 5, ((5, 5), (5, 5)), ()))
        told[0][0] = 99
        self.assertEqual(told, [[99, 2], [2, 2]])

    def test_a_changed_list_changes_no_other_answer(self):
        for house in HOUSES[:20]:
            first = [copy.deepcopy(ask(house)) for _, ask in ASKED]
            for _, ask in ASKED:
                spoil(ask(house))
                self.assertEqual([other(house) for _, other in ASKED], first)

    def test_a_refusal_comes_again(self):
        for _ in range(2):
            for ask in (open_faces, traced):
                with self.assertRaises(NoSuch):
                    ask(HOUSES[0], 4, 0)

    def test_all_numbers_are_whole(self):
        for house in HOUSES:
            for name, ask in ASKED:
                told = [leaf for leaf in leaves(ask(house)) if leaf is not None]
                with self.subTest(house=house, asked=name):
                    self.assertEqual([leaf for leaf in told if type(leaf) is not int], [])


if __name__ == "__main__":
    unittest.main()
