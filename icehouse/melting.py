"""How ice melts by its open faces, hour by hour."""

from icehouse.errors import NoSuch
from icehouse.houses import AIR, STEPS, face_name, has_cell, need_house, places, shut_faces


def rates(house):
    """Tell for each cell what it would lose in the next hour if it had enough."""
    need_house(house)
    heats, cells, walls = house
    return [list(row) for row in _losses(heats, cells, shut_faces(walls))]


def left(house, hours):
    """Tell the house as it stands behind so many hours."""
    need_house(house)
    heats, cells, walls = house
    for begin, stood, losses in _stages(house):
        if begin > hours:
            break
        cells = _melt(stood, losses, hours - begin)
    return (heats, cells, walls)


def open_faces(house, row, column):
    """Tell (side, heat) for each open face of a cell with ice, by sides."""
    _need_cell(house, row, column)
    heats, cells, walls = house
    return _faces(heats, cells, shut_faces(walls), row, column)


def spans(house):
    """Tell (begin, rates) for each span of hours in which no rate changes, in order."""
    need_house(house)
    return [(begin, losses) for begin, _, losses in _stages(house)]


def melted(house):
    """Tell (hour, row, column) for each cell that has ice and is empty at some time, in order."""
    need_house(house)
    gone = []
    ahead = house[1]
    for hour, cells, _ in _stages(house):
        for row, column in places(cells):
            if ahead[row][column] > 0 and cells[row][column] == 0:
                gone.append((hour, row, column))
        ahead = cells
    return gone


def traced(house, row, column):
    """Tell (hour, parts, rate) of a cell at hour 0 and wherever its own rate changes."""
    _need_cell(house, row, column)
    trace = []
    for hour, cells, losses in _stages(house):
        rate = losses[row][column]
        if not trace or trace[-1][2] != rate:
            trace.append((hour, cells[row][column], rate))
    return trace


def lasting(house):
    """Tell (row, column, parts) for each cell that has ice for ever, in order."""
    need_house(house)
    cells = _stages(house)[-1][1]
    return [(row, column, cells[row][column]) for row, column in places(cells) if cells[row][column] > 0]


def _need_cell(house, row, column):
    need_house(house)
    if not has_cell(house[1], row, column):
        raise NoSuch(f"there is no cell at row {row}, column {column}")


def _stages(house):
    """Tell (begin, cells, losses) at hour 0 and at each hour at which rates change."""
    # Rates change only when a cell is first empty, so these few hours tell the whole course;
    # and they do change then, as that cell had a rate above 0.
    heats, cells, walls = house
    shut = shut_faces(walls)
    begin = 0
    losses = _losses(heats, cells, shut)
    stages = [(begin, cells, losses)]
    hours = _hours_to_empty(cells, losses)
    while hours is not None:
        begin += hours
        cells = _melt(cells, losses, hours)
        losses = _losses(heats, cells, shut)
        stages.append((begin, cells, losses))
        hours = _hours_to_empty(cells, losses)
    return stages


def _hours_to_empty(cells, losses):
    """Tell in how many hours a cell is empty next; None if nothing melts any more."""
    return min([
        (parts + loss - 1) // loss
        for row, row_losses in zip(cells, losses)
        for parts, loss in zip(row, row_losses)
        if loss > 0
    ], default=None)


def _melt(cells, losses, hours):
    return tuple([
        tuple([max(0, parts - loss * hours) for parts, loss in zip(row, row_losses)])
        for row, row_losses in zip(cells, losses)
    ])


def _losses(heats, cells, shut):
    return tuple([
        tuple([_loss(heats, cells, shut, row, column) for column in range(len(cells[0]))])
        for row in range(len(cells))
    ])


def _loss(heats, cells, shut, row, column):
    return sum([heat for _, heat in _faces(heats, cells, shut, row, column)])


def _faces(heats, cells, shut, row, column):
    if cells[row][column] == 0:
        return []
    faces = []
    for side, (down, along) in enumerate(STEPS):
        if face_name(row, column, side) in shut:
            continue
        if not has_cell(cells, row + down, column + along):
            faces.append((side, heats[side]))
        elif cells[row + down][column + along] == 0:
            faces.append((side, heats[AIR]))
    return faces
