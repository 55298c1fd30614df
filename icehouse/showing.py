"""Whether a table shows that no plan has a greater worth."""

from icehouse.deeds import first_stand, fitting, highest, is_place, need_deeds, next_stand
from icehouse.houses import need_house


def shows(house, deeds, till, worth, table):
    """Tell whether a table shows that no plan has a greater worth."""
    need_house(house)
    need_deeds(deeds, till)
    return _shows(deeds, till, 0, first_stand(house, deeds, till), worth, table)


def _shows(deeds, till, number, stand, worth, table):
    """Tell whether a table shows it of a deed's number and the stand at its hour."""
    if table == ("end",):
        return number == len(deeds) and highest(deeds, number, stand) <= worth
    if table == ("bound",):
        return number < len(deeds) and highest(deeds, number, stand) <= worth
    if number == len(deeds) or not _are_cases(table):
        return False
    rows = table[1]
    if [place for place, _ in rows] != fitting(deeds[number], stand):
        return False
    for place, inner in rows:
        if not _shows(deeds, till, number + 1, next_stand(deeds, till, number, stand, place), worth, inner):
            return False
    return True


def _are_cases(table):
    if not isinstance(table, tuple) or len(table) != 2 or table[0] != "cases":
        return False
    return isinstance(table[1], tuple) and all([_is_row(row) for row in table[1]])


def _is_row(row):
    return isinstance(row, tuple) and len(row) == 2 and is_place(row[0])
