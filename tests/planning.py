"""Deeds, plans and tables straight from the document's words, walked hour by hour, to hold the program against."""

import itertools
import random

import hourly


def fitting(house, deed):
    """None, and then each place that fits a deed in a house as it stands."""
    cells = house[1]
    with_ice = [place for place in hourly.all_cells(house) if cells[place[0]][place[1]]]
    empty = [place for place in hourly.all_cells(house) if not cells[place[0]][place[1]]]
    return [None] + (with_ice if deed[0] == "take" else empty)


def do(taken, house, deed, place):
    """What was taken, and the house, right behind a deed."""
    if place is None:
        return taken, house
    if deed[0] == "take":
        return taken + house[1][place[0]][place[1]], hourly.with_cell(house, place, 0)
    return taken, hourly.with_cell(house, place, deed[2])


def worked(house, deeds, till, plan):
    """(taken, house) at the till, or None if a place of the plan doesn't fit when it is its turn."""
    taken, at = 0, 0
    for deed, place in zip(deeds, plan):
        house, at = hourly.left(house, deed[1] - at), deed[1]
        if place not in fitting(house, deed):
            return None
        taken, house = do(taken, house, deed, place)
    return taken, hourly.left(house, till - at)


def every_worth(house, deeds, till):
    """The worth of each plan that there is, by plans."""
    places = [None] + hourly.all_cells(house)
    found = {}
    for plan in itertools.product(places, repeat=len(deeds)):
        told = worked(house, deeds, till, plan)
        if told is not None:
            found[plan] = told[0] + hourly.total(told[1])
    return found


def hour_of(deeds, till, number):
    return deeds[number][1] if number < len(deeds) else till


def begin(house, deeds, till):
    return hourly.left(house, hour_of(deeds, till, 0))


def behind(deeds, till, number, house, taken, place):
    """What was taken by the next deed's hour (or the till), and the house as it stands then."""
    taken, house = do(taken, house, deeds[number], place)
    return taken, hourly.left(house, hour_of(deeds, till, number + 1) - hour_of(deeds, till, number))


def whole_table(house, deeds, till):
    """The table that goes through all cases to the end."""
    return _whole(deeds, till, 0, begin(house, deeds, till))


def _whole(deeds, till, number, house):
    if number == len(deeds):
        return ("end",)
    rows = []
    for place in fitting(house, deeds[number]):
        _, then = behind(deeds, till, number, house, 0, place)
        rows.append((place, _whole(deeds, till, number + 1, then)))
    return ("cases", tuple(rows))


def shows(house, deeds, till, worth, table):
    return _shows(deeds, till, 0, begin(house, deeds, till), 0, worth, table)


def _shows(deeds, till, number, house, taken, worth, table):
    there_is = number < len(deeds)
    if table == ("end",):
        return not there_is and taken + hourly.total(house) <= worth
    if table == ("bound",):
        lays = sum(deed[2] for deed in deeds[number:] if deed[0] == "lay")
        return there_is and taken + hourly.total(house) + lays <= worth
    if not there_is or type(table) is not tuple or len(table) != 2 or table[0] != "cases":
        return False
    rows = table[1]
    if type(rows) is not tuple or any(type(row) is not tuple or len(row) != 2 for row in rows):
        return False
    if [row[0] for row in rows] != fitting(house, deeds[number]):
        return False
    for place, inner in rows:
        then_taken, then = behind(deeds, till, number, house, taken, place)
        if not _shows(deeds, till, number + 1, then, then_taken, worth, inner):
            return False
    return True


def some_tasks(many, seed, most_deeds=3, most_cells=4):
    """(house, deeds, till) of small houses and few hours; the same ones at each run."""
    dice = random.Random(seed)
    tasks = []
    for house in hourly.some_houses(many * 6, seed, 25):
        if len(hourly.all_cells(house)) > most_cells:
            continue
        hours = sorted(dice.sample(range(12), dice.randint(0, most_deeds)))
        deeds = tuple(
            ("take", hour) if dice.random() < 0.5 else ("lay", hour, dice.randint(1, 25)) for hour in hours
        )
        tasks.append((house, deeds, max(hours, default=0) + dice.choice((0, 1, 3, 8))))
    return tasks[:many]
