"""What a plan for the deeds brings, and which plan brings most."""

from icehouse.deeds import first_stand, fitting, highest, is_place, need_deeds, next_stand
from icehouse.errors import BadPlan
from icehouse.houses import need_house, total


def worked(house, deeds, till, plan):
    """Tell (taken, house): all parts taken together, and the house as it stands at the till."""
    need_house(house)
    need_deeds(deeds, till)
    _need_plan(deeds, plan)
    stand = first_stand(house, deeds, till)
    for number, place in enumerate(plan):
        if place not in fitting(deeds[number], stand):
            raise BadPlan(f"the place {place} doesn't fit deed {number}")
        stand = next_stand(deeds, till, number, stand, place)
    return stand


def worth(house, deeds, till, plan):
    """Tell all parts that are taken by a plan, or left at the till."""
    taken, stood = worked(house, deeds, till, plan)
    return taken + total(stood)


def best(house, deeds, till):
    """Tell (worth, plan, table): the greatest worth of all plans, a plan with it, and a table that shows it."""
    need_house(house)
    need_deeds(deeds, till)
    # Every plan is worth more than this, so the first one that is gone through takes its place.
    none_yet = (-1, ())
    found, table = _search(deeds, till, first_stand(house, deeds, till), (), none_yet)
    return (found[0], found[1], table)


def _search(deeds, till, stand, ahead, found):
    """Tell the better one of what was found and what goes on from here, as (worth, plan), and a table of it.

    The stand is that behind the places ahead.
    """
    number = len(ahead)
    most = highest(deeds, number, stand)
    if number == len(deeds):
        better = (most, ahead) if most > found[0] else found
        return (better, ("end",))
    # What is found only grows from here on, so a bound for it holds for the greatest worth too.
    if most <= found[0]:
        return (found, ("bound",))
    rows = []
    for place in fitting(deeds[number], stand):
        behind = next_stand(deeds, till, number, stand, place)
        found, table = _search(deeds, till, behind, ahead + (place,), found)
        rows.append((place, table))
    return (found, ("cases", tuple(rows)))


def _need_plan(deeds, plan):
    """Refuse with BadPlan a plan of another form; whether its places fit is seen at their turn."""
    if not isinstance(plan, tuple) or len(plan) != len(deeds):
        raise BadPlan("a plan is a tuple with a place, or None, for each deed")
    for place in plan:
        if not is_place(place):
            raise BadPlan("a place is None, or a tuple of the row and the column of a cell")
