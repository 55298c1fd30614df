"""Point 1: whole numbers, nothing handed in is changed, told lists are free to change, and answers stay."""

import copy
import os
import unittest

import icehouse
from asked import ASKED
from hourly import some_houses
from icehouse.errors import BadDeeds, BadHouse, BadPlan, BadText, NoSuch
from icehouse.melting import open_faces, traced
from icehouse.plans import best, worked, worth
from icehouse.showing import shows
from icehouse.texts import read, written
from icehouse.walls import after

HOUSES = some_houses(60, 71, 50) + some_houses(20, 72, 9999)
DEEDS = (("take", 1), ("lay", 2, 7), ("take", 4))
COLD = ((0,) * 5, ((5, 0), (0, 7)), ((0, 0, 1), (1, 0, 0)))
TEXT = "heats 0 0 0 0 0\nrow 5 0\nrow 0 7\nwall 0 0 1\nwall 1 0 0"


def spoil(told):
    """Change all lists within what was told."""
    if isinstance(told, (list, tuple)):
        for item in told:
            spoil(item)
    if isinstance(told, list):
        told.reverse()
        told.append("spoilt")
        told[0] = "spoilt"


def leaves(told):
    if isinstance(told, (list, tuple)):
        return [leaf for item in told for leaf in leaves(item)]
    return [told]


class TestUnchanged(unittest.TestCase):
    def test_what_is_handed_in_is_as_it_was(self):
        for house in HOUSES:
            before = copy.deepcopy(house)
            for name, ask in ASKED:
                ask(house)
                with self.subTest(house=before, asked=name):
                    self.assertEqual(house, before)

    def test_what_is_handed_in_is_as_it_was_behind_a_refusal(self):
        for house in ([[1, 2], [3]], ((1, 2, 3, 4, 5), [[1], [2]], []), {"heats": [1]}):
            before = copy.deepcopy(house)
            for name, ask in ASKED:
                with self.subTest(house=before, asked=name):
                    with self.assertRaises(ValueError):
                        ask(house)
                    self.assertEqual(house, before)

    def test_a_list_that_was_told_may_be_changed(self):
        for house in HOUSES:
            for name, ask in ASKED:
                first = ask(house)
                kept = copy.deepcopy(first)
                spoil(first)
                with self.subTest(house=house, asked=name):
                    self.assertEqual(ask(house), kept)

    def test_lists_that_were_told_share_nothing(self):
        for house in HOUSES:
            for name, ask in ASKED:
                first, second = ask(house), ask(house)
                kept = copy.deepcopy(second)
                spoil(first)
                with self.subTest(house=house, asked=name):
                    self.assertEqual(second, kept)

    def test_the_rows_of_one_list_share_nothing(self):
        rates = dict(ASKED)["rates"]
        told = rates(((1,) * 5, ((5, 5), (5, 5)), ()))
        told[0][0] = 99
        self.assertEqual(told, [[99, 2], [2, 2]])

    def test_a_changed_list_changes_no_other_answer(self):
        for house in HOUSES[:20]:
            first = [copy.deepcopy(ask(house)) for _, ask in ASKED]
            for _, ask in ASKED:
                spoil(ask(house))
                self.assertEqual([other(house) for _, other in ASKED], first)

    def test_a_refusal_comes_again(self):
        for _ in range(2):
            for ask in (open_faces, traced):
                with self.assertRaises(NoSuch):
                    ask(HOUSES[0], 4, 0)

    def test_all_numbers_are_whole(self):
        for house in HOUSES:
            for name, ask in ASKED:
                told = [leaf for leaf in leaves(ask(house)) if leaf is not None]
                kinds = {"shows": [bool], "written": [str], "best": [int, str]}.get(name, [int])
                with self.subTest(house=house, asked=name):
                    self.assertEqual([leaf for leaf in told if type(leaf) not in kinds], [])


class TestDeedsPlansTablesTexts(unittest.TestCase):
    def asked(self):
        """What all functions of more than a house tell of the same things."""
        table = best(COLD, DEEDS, 6)[2]
        plan = ((0, 0), (0, 1), (1, 1))
        return [
            after(COLD, 3, ("wall", 1)), after(COLD, 3, ("ice", 0, 0)), worked(COLD, DEEDS, 6, plan),
            worth(COLD, DEEDS, 6, plan), best(COLD, DEEDS, 6), shows(COLD, DEEDS, 6, 19, table),
            shows(COLD, DEEDS, 6, 18, table), written(COLD), read(TEXT),
        ] + [ask(COLD) for _, ask in ASKED]

    def refusals(self):
        """A refusal of each kind, by each function that has it."""
        return (
            (BadHouse, lambda: written((COLD[0], ((1,), (1, 2)), ()))),
            (BadHouse, lambda: read("heats 0 0 0 0 0")),
            (BadHouse, lambda: best((COLD[0], COLD[1], ((0, 0, 1), (0, 1, 3))), DEEDS, 6)),
            (NoSuch, lambda: open_faces(COLD, 2, 0)),
            (NoSuch, lambda: after(COLD, 3, ("wall", 2))),
            (NoSuch, lambda: after(COLD, 3, ("ice", 0, 1))),
            (BadDeeds, lambda: best(COLD, DEEDS[::-1], 6)),
            (BadDeeds, lambda: shows(COLD, DEEDS, 3, 99, ("bound",))),
            (BadDeeds, lambda: worth(COLD, DEEDS + DEEDS, 6, ())),
            (BadPlan, lambda: worked(COLD, DEEDS, 6, ((0, 0), (1, 1), None))),
            (BadPlan, lambda: worth(COLD, DEEDS, 6, ((0, 0), None))),
            (BadText, lambda: read(TEXT + "\n")),
            (BadText, lambda: read("")),
        )

    def test_asked_again_the_answers_are_the_same(self):
        first = copy.deepcopy(self.asked())
        for _ in range(3):
            self.assertEqual(self.asked(), first)

    def test_refusals_between_change_nothing(self):
        first = copy.deepcopy(self.asked())
        for error, ask in self.refusals():
            for _ in range(2):
                with self.assertRaises(error):
                    ask()
                self.assertEqual(self.asked(), first)
        for error, ask in self.refusals():
            with self.assertRaises(error):
                ask()

    def test_answers_that_were_changed_change_no_other(self):
        first = copy.deepcopy(self.asked())
        for told in self.asked():
            spoil(told)
            self.assertEqual(self.asked(), first)

    def test_what_is_handed_in_is_as_it_was(self):
        table = best(COLD, DEEDS, 6)[2]
        plan = ((0, 0), (0, 1), (1, 1))
        kept = copy.deepcopy((COLD, DEEDS, plan, table))
        for ask in (lambda: worked(COLD, DEEDS, 6, plan), lambda: worth(COLD, DEEDS, 6, plan)):
            ask()
            self.assertEqual((COLD, DEEDS, plan, table), kept)
        for given in (19, 18, -1):
            shows(COLD, DEEDS, 6, given, table)
            self.assertEqual((COLD, DEEDS, plan, table), kept)

    def test_what_is_refused_is_as_it_was(self):
        deeds = [["take", 1], ["lay", 2, 7]]
        plan = [[0, 0], None]
        for error, ask in (
            (BadDeeds, lambda: best(COLD, deeds, 6)),
            (BadDeeds, lambda: worked(COLD, tuple(deeds), 6, plan)),
            (BadDeeds, lambda: shows(COLD, deeds, 6, 99, ("bound",))),
            (BadPlan, lambda: worked(COLD, DEEDS[:2], 6, plan)),
            (BadPlan, lambda: worth(COLD, DEEDS[:2], 6, tuple(plan))),
        ):
            with self.assertRaises(error):
                ask()
            self.assertEqual((deeds, plan), ([["take", 1], ["lay", 2, 7]], [[0, 0], None]))


class TestNothingFromOutside(unittest.TestCase):
    def test_the_package_takes_nothing_but_itself(self):
        folder = os.path.dirname(icehouse.__file__)
        for name in sorted(os.listdir(folder)):
            if not name.endswith(".py"):
                continue
            with open(os.path.join(folder, name), encoding="utf-8") as file:
                taken = [row.split()[1] for row in file if row.startswith(("import ", "from "))]
            with self.subTest(file=name):
                self.assertEqual([module for module in taken if not module.startswith("icehouse.")], [])


if __name__ == "__main__":
    unittest.main()
