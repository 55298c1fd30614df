"""An icehouse walked hour by hour, straight from the document's words, to hold the program against."""

import random

BEHIND = ((-1, 0), (0, 1), (1, 0), (0, -1))


def all_cells(house):
    cells = house[1]
    return [(row, column) for row in range(len(cells)) for column in range(len(cells[0]))]


def faces(house, row, column):
    """(side, heat) for each open face of a cell with ice."""
    heats, cells, walls = house
    found = []
    for side in range(4):
        down, along = BEHIND[side]
        other_row, other_column = row + down, column + along
        if (row, column, side) in walls or (other_row, other_column, (side + 2) % 4) in walls:
            continue
        if other_row not in range(len(cells)) or other_column not in range(len(cells[0])):
            found.append((side, heats[side]))
        elif not cells[other_row][other_column]:
            found.append((side, heats[4]))
    return found if cells[row][column] else []


def rates(house):
    return [
        [sum(heat for _, heat in faces(house, row, column)) for column in range(len(house[1][0]))]
        for row in range(len(house[1]))
    ]


def next_hour(house):
    heats, cells, walls = house
    lost = rates(house)
    then = tuple(
        tuple(max(parts - lost[row][column], 0) for column, parts in enumerate(cells[row]))
        for row in range(len(cells))
    )
    return (heats, then, walls)


def course(house):
    """The house at hour 0, at hour 1 and so on, until nothing melts any more."""
    hours = [house]
    while any(rate for row in rates(hours[-1]) for rate in row):
        hours.append(next_hour(hours[-1]))
    return hours


def left(house, hours):
    """The house behind so many hours; it is not walked on once nothing melts any more."""
    while hours > 0 and any(rate for row in rates(house) for rate in row):
        house = next_hour(house)
        hours -= 1
    return house


def total(house):
    return sum(parts for row in house[1] for parts in row)


def with_cell(house, place, parts):
    """The same house with so many parts in one cell."""
    rows = [list(row) for row in house[1]]
    rows[place[0]][place[1]] = parts
    return (house[0], tuple(tuple(row) for row in rows), house[2])


def spans(hours):
    found = []
    for hour, house in enumerate(hours):
        now = tuple(tuple(row) for row in rates(house))
        if not found or found[-1][1] != now:
            found.append((hour, now))
    return found


def melted(hours):
    found = []
    for row, column in all_cells(hours[0]):
        parts = [house[1][row][column] for house in hours]
        if parts[0] and not parts[-1]:
            found.append((parts.index(0), row, column))
    return sorted(found)


def traced(hours, row, column):
    found = []
    for hour, house in enumerate(hours):
        rate = rates(house)[row][column]
        if not found or found[-1][2] != rate:
            found.append((hour, house[1][row][column], rate))
    return found


def lasting(hours):
    last = hours[-1]
    return [(row, column, last[1][row][column]) for row, column in all_cells(last) if last[1][row][column]]


def all_walls(rows, columns):
    """Each face of so many cells once, in a row each."""
    north = [(0, column, 0) for column in range(columns)]
    west = [(row, 0, 3) for row in range(rows)]
    rest = [(row, column, side) for row in range(rows) for column in range(columns) for side in (1, 2)]
    return north + west + rest


def told_from_beyond(wall, rows, columns):
    """The same face told from the other cell, where there is one."""
    row, column, side = wall
    down, along = BEHIND[side]
    if row + down in range(rows) and column + along in range(columns):
        return (row + down, column + along, (side + 2) % 4)
    return wall


def some_houses(many, seed, most):
    """Houses of all sizes, with walls told from either cell; the same ones at each run."""
    dice = random.Random(seed)
    houses = []
    for _ in range(many):
        rows, columns = dice.randint(1, 4), dice.randint(1, 4)
        heats = tuple(dice.choice((0, 0, 1, 2, 3, 5, 9)) for _ in range(5))
        empty = dice.choice((0.0, 0.2, 0.5))
        cells = tuple(
            tuple(0 if dice.random() < empty else dice.randint(0, most) for _ in range(columns))
            for _ in range(rows)
        )
        there = all_walls(rows, columns)
        walls = dice.sample(there, dice.randint(0, len(there)) if dice.random() < 0.7 else 0)
        walls = tuple(told_from_beyond(wall, rows, columns) if dice.random() < 0.5 else wall for wall in walls)
        houses.append((heats, cells, walls))
    return houses
