"""Deeds and tills: what they are, which places fit a deed, and how a house goes on from deed to deed.

A stand is a tuple (taken, house): all parts taken so far, and the house at the hour of a deed or at the till.
"""

from icehouse.errors import BadDeeds
from icehouse.houses import MOST_COLUMNS, MOST_PARTS, MOST_ROWS, is_number, places, total, with_parts
from icehouse.melting import left

TAKE = "take"
LAY = "lay"

MOST_DEEDS = 3
MOST_HOUR = 1000000


def need_deeds(deeds, till):
    """Refuse with BadDeeds whatever are no deeds, and whatever is no till of theirs."""
    if not isinstance(deeds, tuple) or len(deeds) > MOST_DEEDS:
        raise BadDeeds("deeds are a tuple of up to three")
    for deed in deeds:
        if not _is_deed(deed):
            raise BadDeeds("a deed is a tuple of take and an hour, or of lay, an hour and parts")
    hours = [deed[1] for deed in deeds]
    for ahead, behind in zip(hours, hours[1:]):
        if ahead >= behind:
            raise BadDeeds("the hours of deeds rise")
    if not is_number(till, MOST_HOUR) or till < max(hours, default=0):
        raise BadDeeds("a till is an hour, no less than any deed's")


def is_place(value):
    """Tell whether a value is of the form that a plan has for a deed: None, or (row, column)."""
    if value is None:
        return True
    if not isinstance(value, tuple) or len(value) != 2:
        return False
    return is_number(value[0], MOST_ROWS - 1) and is_number(value[1], MOST_COLUMNS - 1)


def fitting(deed, stand):
    """Tell all that a plan may have for a deed: None, and then each place that fits, rising."""
    cells = stand[1][1]
    takes = deed[0] == TAKE
    return [None] + [(row, column) for row, column in places(cells) if (cells[row][column] > 0) == takes]


def first_stand(house, deeds, till):
    """Tell the stand at the first deed's hour."""
    return (0, left(house, _hour(deeds, till, 0)))


def next_stand(deeds, till, number, stand, place):
    """Tell the stand at the next deed's hour if a deed is done at a place."""
    taken, house = _done(deeds[number], stand, place)
    hours = _hour(deeds, till, number + 1) - _hour(deeds, till, number)
    return (taken, left(house, hours))


def highest(deeds, number, stand):
    """Tell all that was taken, stands, or is yet to be laid; behind the last deed that is a plan's worth."""
    taken, house = stand
    return taken + total(house) + sum([deed[2] for deed in deeds[number:] if deed[0] == LAY])


def _is_deed(deed):
    if not isinstance(deed, tuple) or len(deed) < 2 or not is_number(deed[1], MOST_HOUR):
        return False
    if len(deed) == 2:
        return deed[0] == TAKE
    return len(deed) == 3 and deed[0] == LAY and is_number(deed[2], MOST_PARTS) and deed[2] > 0


def _hour(deeds, till, number):
    """Tell a deed's hour; behind the last deed comes the till."""
    if number == len(deeds):
        return till
    return deeds[number][1]


def _done(deed, stand, place):
    """Tell the stand right behind a deed, at its own hour still."""
    if place is None:
        return stand
    taken, house = stand
    row, column = place
    if deed[0] == TAKE:
        return (taken + house[1][row][column], with_parts(house, row, column, 0))
    return (taken, with_parts(house, row, column, deed[2]))
