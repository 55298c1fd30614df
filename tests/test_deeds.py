"""Point 8: deeds, tills and plans, and what is refused of them."""

import unittest

import planning
from hourly import all_cells
from icehouse.errors import BadDeeds, BadHouse, BadPlan
from icehouse.plans import best, worked, worth
from icehouse.showing import shows
from planning import some_tasks

LAST = 10 ** 6
HEATS = (1, 2, 3, 4, 5)
HOUSE = (HEATS, ((10, 0), (7, 20)), ())
COLD = ((0,) * 5, ((10, 0), (7, 20)), ())
BAD_HOUSES = (None, (HEATS, (), ()), (HEATS, ((1,),), ((0, 0, 4),)), [HEATS, ((1,),), ()])

TAKE = ("take", 5)
LAY = ("lay", 7, 3)

GOOD = (
    ("none, at once", (), 0),
    ("none, at last", (), LAST),
    ("one at once, till then", (("take", 0),), 0),
    ("one at last", (("take", LAST),), LAST),
    ("laid at once", (("lay", 0, 1),), 0),
    ("laid at last", (("lay", LAST, 9999),), LAST),
    ("one part", (("lay", 5, 1),), 9),
    ("all parts", (("lay", 5, 9999),), 9),
    ("three", (("take", 1), ("lay", 2, 3), ("take", 3)), 4),
    ("three takes from the first hours on", (("take", 0), ("take", 1), ("take", 2)), 2),
    ("three lays at the bounds", (("lay", 0, 9999), ("lay", LAST - 1, 1), ("lay", LAST, 9999)), LAST),
    ("hours far apart", (("take", 0), ("take", LAST)), LAST),
)

# None of these is an hour, nor a number of parts.
NO_NUMBERS = (-1, -LAST, 10 ** 30, None, True, False, "", "5", b"5", (), (5,), [5], {}, {5})
NO_DEEDS = ([], None, True, False, 0, 5, "", "take", b"take", {}, set(), (), ("take",), ("lay",), ("lay", 5))


def bad_deeds():
    """Deeds with a till, both of any kind; the deeds are none."""
    for whole in ([], None, True, False, 0, 3, "", "take", {}, set(), [TAKE], {TAKE: 1}, TAKE, LAY):
        yield whole
    yield (("take", 1), ("take", 2), ("take", 3), ("take", 4))
    yield (("lay", 1, 1), ("lay", 2, 1), ("take", 3), ("take", 4), ("take", 5))
    for deed in bad_single_deeds():
        yield (deed,)
        yield (("take", 0), deed)
        yield (deed, ("take", 9))
        yield (("take", 0), ("lay", 1, 2), deed)
    for ahead, behind in ((5, 5), (5, 4), (5, 0), (0, 0), (LAST, LAST), (LAST, 0)):
        yield (("take", ahead), ("take", behind))
        yield (("take", ahead), ("lay", behind, 3))
        yield (("lay", ahead, 3), ("take", behind))
        yield (("lay", ahead, 3), ("lay", behind, 3))
    for hours in ((1, 2, 2), (1, 1, 2), (1, 3, 2), (2, 1, 3), (3, 2, 1), (0, 0, 0), (0, 5, 0)):
        yield tuple(("take", hour) for hour in hours)
        yield tuple(("lay", hour, 3) for hour in hours)


def bad_single_deeds():
    for deed in NO_DEEDS:
        yield deed
    yield ["take", 5]
    yield ["lay", 5, 3]
    yield ("take", 5, 3)
    yield ("lay", 5, 3, 1)
    yield ("take", 5, None)
    yield (5, "take")
    yield (5,)
    for word in ("Take", "TAKE", "take ", "", "lay", "put", b"take", None, 0, True, ("take",), ["take"]):
        yield (word, 5)
    for word in ("Lay", "LAY", " lay", "", "take", "put", b"lay", None, 0, True, ("lay",), ["lay"]):
        yield (word, 5, 3)
    for number in NO_NUMBERS + (LAST + 1,):
        yield ("take", number)
        yield ("lay", number, 3)
    for number in NO_NUMBERS + (0, 10000, 10001):
        yield ("lay", 5, number)


def bad_tills():
    """(deeds, till), the deeds being good."""
    for number in NO_NUMBERS + (LAST + 1, 2 * LAST, (TAKE,), "till"):
        yield (), number
        yield (TAKE,), number
        yield (TAKE, LAY), number
    yield (TAKE,), 4
    yield (TAKE,), 0
    yield (LAY,), 6
    yield (TAKE, LAY), 6
    yield (TAKE, LAY), 5
    yield (("take", 0), ("take", 1), ("take", 2)), 1
    yield (("take", 1),), 0
    yield (("take", LAST),), LAST - 1


def bad_tasks():
    for deeds in bad_deeds():
        for till in (9, LAST, None):
            yield deeds, till
    yield from bad_tills()


def bad_plan_forms():
    """Plans for one deed of taking, at hour 0; the house has ice in (0, 0), (1, 0), (1, 1)."""
    for whole in (None, [], [None], [(0, 0)], 0, True, "", "N", {}, {0: None}, set(), (), (None, None), (0, 0)):
        yield whole
    yield ((0, 0), None)
    yield ((0, 0), (1, 0))
    for place in ([0, 0], "00", b"00", 0, True, False, "", (), (0,), (0, 0, 0), {}, {0: 0}, set(), [], ((0, 0),)):
        yield (place,)
    for number in (True, False, None, "0", b"0", "", (), (0,), [0], {}, 10 ** 30, -10 ** 30):
        yield ((number, 0),)
        yield ((0, number),)
        yield ((1, number),)
        yield ((number, 1),)
    for row, column in ((-1, 0), (2, 0), (0, -1), (0, 2), (-1, -1), (2, 2), (-2, 0), (0, -2), (4, 0), (0, 4)):
        yield ((row, column),)
        yield ((column, row),)


def ask_all(house, deeds, till, plan):
    """Each of the four functions as a function of nothing, with its name."""
    return (
        ("worked", lambda: worked(house, deeds, till, plan)),
        ("worth", lambda: worth(house, deeds, till, plan)),
        ("best", lambda: best(house, deeds, till)),
        ("shows", lambda: shows(house, deeds, till, 100, ("end",))),
    )


class TestDeedsAndTills(unittest.TestCase):
    def test_at_the_bounds_they_are_let_by(self):
        for words, deeds, till in GOOD:
            for house in (HOUSE, COLD):
                for name, ask in ask_all(house, deeds, till, (None,) * len(deeds)):
                    with self.subTest(words=words, asked=name):
                        ask()

    def test_what_is_none_is_refused(self):
        for deeds, till in bad_tasks():
            many = len(deeds) if isinstance(deeds, tuple) else 1
            for name, ask in ask_all(HOUSE, deeds, till, (None,) * many):
                with self.subTest(deeds=deeds, till=till, asked=name), self.assertRaises(BadDeeds):
                    ask()

    def test_no_house_is_refused_ahead_of_no_deeds(self):
        for house in BAD_HOUSES:
            for deeds, till in ((None, 9), ((TAKE,), 4), ((TAKE,), 9), ((TAKE, TAKE), None)):
                for plan in ((None,), None, ((9, 9),)):
                    for name, ask in ask_all(house, deeds, till, plan):
                        with self.subTest(house=house, asked=name), self.assertRaises(BadHouse):
                            ask()

    def test_no_deeds_are_refused_ahead_of_no_plan(self):
        for deeds, till in ((None, 9), ((TAKE,), 4), ((TAKE,), True), ((TAKE, TAKE), 9), (("take",), 9)):
            for plan in (None, (), [None], ((9, 9),), (None, None, None), (True,)):
                for ask in (worked, worth):
                    with self.subTest(deeds=deeds, plan=plan), self.assertRaises(BadDeeds):
                        ask(HOUSE, deeds, till, plan)

    def test_no_deeds_are_refused_whatever_the_worth_and_the_table(self):
        for given in (-1, 0, 10 ** 9):
            for table in ((), ("end",), ("bound",), ("cases", ()), (None, 5)):
                with self.assertRaises(BadDeeds):
                    shows(HOUSE, (("take", 5), ("take", 5)), 9, given, table)


class TestPlanForms(unittest.TestCase):
    def test_another_form_is_refused(self):
        for plan in bad_plan_forms():
            for ask in (worked, worth):
                with self.subTest(plan=plan), self.assertRaises(BadPlan):
                    ask(HOUSE, (("take", 0),), 0, plan)

    def test_another_length_is_refused(self):
        tasks = ((), (("take", 1),), (("take", 1), ("take", 2)), (("take", 1), ("take", 2), ("take", 3)))
        for deeds in tasks:
            for many in range(6):
                for ask in (worked, worth):
                    if many == len(deeds):
                        ask(HOUSE, deeds, 9, (None,) * many)
                        continue
                    with self.subTest(deeds=deeds, many=many), self.assertRaises(BadPlan):
                        ask(HOUSE, deeds, 9, (None,) * many)

    def test_a_bad_place_behind_good_ones_is_refused(self):
        deeds = (("take", 0), ("lay", 1, 5), ("take", 2))
        worked(COLD, deeds, 9, ((0, 0), (0, 0), (0, 0)))
        for at in range(3):
            for place in ((9, 9), (-1, 0), (0, True), [0, 0], 0, (0,), ((0, 0),)):
                plan = ((0, 0),) * at + (place,) + ((0, 0),) * (2 - at)
                for ask in (worked, worth):
                    with self.subTest(plan=plan), self.assertRaises(BadPlan):
                        ask(COLD, deeds, 9, plan)


class TestPlacesThatFit(unittest.TestCase):
    def refuse(self, house, deeds, till, plan):
        for ask in (worked, worth):
            with self.subTest(deeds=deeds, plan=plan), self.assertRaises(BadPlan):
                ask(house, deeds, till, plan)

    def test_ice_is_not_taken_from_an_empty_cell(self):
        self.refuse(HOUSE, (("take", 0),), 0, ((0, 1),))
        self.refuse(COLD, (("take", LAST),), LAST, ((0, 1),))

    def test_ice_is_not_laid_in_a_cell_that_has_some(self):
        for place in ((0, 0), (1, 0), (1, 1)):
            self.refuse(HOUSE, (("lay", 0, 5),), 0, (place,))
            self.refuse(COLD, (("lay", LAST, 5),), LAST, (place,))

    def test_it_is_the_deeds_own_hour_that_counts(self):
        # The first cell has 10 parts and loses 10 in an hour, the last is empty behind two.
        self.assertEqual(worked(HOUSE, (("take", 0),), 0, ((0, 0),))[0], 10)
        self.refuse(HOUSE, (("take", 1),), 9, ((0, 0),))
        self.refuse(HOUSE, (("take", 1),), 1, ((0, 0),))
        self.assertEqual(worked(HOUSE, (("take", 1),), 1, ((1, 1),))[0], 10)
        self.refuse(HOUSE, (("take", 2),), 2, ((1, 1),))
        self.refuse(HOUSE, (("lay", 1, 5),), 1, ((1, 1),))
        self.assertEqual(worked(HOUSE, (("lay", 2, 5),), 2, ((1, 1),))[1][1], ((0, 0), (0, 5)))

    def test_what_was_done_ahead_counts(self):
        both = (("take", 1), ("take", 2))
        self.refuse(COLD, both, 9, ((0, 0), (0, 0)))
        self.refuse(COLD, (("lay", 1, 3), ("lay", 2, 3)), 9, ((0, 1), (0, 1)))
        self.refuse(COLD, (("take", 1), ("lay", 2, 3), ("lay", 3, 3)), 9, ((0, 0), (0, 0), (0, 0)))
        self.refuse(COLD, (("lay", 1, 3), ("take", 2), ("take", 3)), 9, ((0, 1), (0, 1), (0, 1)))
        self.assertEqual(worked(COLD, (("take", 1), ("lay", 2, 3)), 9, ((0, 0), (0, 0)))[1][1], ((3, 0), (7, 20)))
        self.assertEqual(worked(COLD, (("lay", 1, 3), ("take", 2)), 9, ((0, 1), (0, 1)))[0], 3)

    def test_what_was_laid_melts_and_leaves_the_cell_empty(self):
        lone = (HEATS, ((0,),), ())
        deeds = (("lay", 0, 20), ("take", 2))
        self.refuse(lone, deeds, 9, ((0, 0), (0, 0)))
        self.assertEqual(worked(lone, (("lay", 0, 21), ("take", 2)), 9, ((0, 0), (0, 0)))[0], 1)
        self.assertEqual(worked(lone, (("lay", 0, 20), ("lay", 2, 8)), 2, ((0, 0), (0, 0)))[1][1], ((8,),))
        self.refuse(lone, (("lay", 0, 20), ("lay", 1, 8)), 2, ((0, 0), (0, 0)))

    def test_none_fits_always(self):
        empty = (HEATS, ((0, 0),), ())
        for deeds in ((("take", 0),), (("lay", 0, 5),), (("take", 3), ("lay", 4, 4), ("take", 5))):
            self.assertEqual(worked(empty, deeds, 9, (None,) * len(deeds)), (0, empty))

    def test_each_plan_there_is_and_each_that_there_is_not(self):
        for house, deeds, till in some_tasks(60, 81, most_deeds=2):
            places = [None] + all_cells(house) + [(9, 9)]
            plans = [()]
            for _ in deeds:
                plans = [plan + (place,) for plan in plans for place in places]
            for plan in plans:
                if planning.worked(house, deeds, till, plan) is None:
                    self.refuse(house, deeds, till, plan)
                else:
                    worked(house, deeds, till, plan)
                    worth(house, deeds, till, plan)


if __name__ == "__main__":
    unittest.main()
