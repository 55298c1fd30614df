"""What a change does to a house later on, what each wall is worth, and where one more saves most."""

from icehouse.errors import NoSuch
from icehouse.houses import face_name, has_cell, is_number, need_house, places, shut_faces, total, with_parts
from icehouse.melting import left


def after(house, hours, change):
    """Tell the house as it stands behind so many hours, with a wall gone or a cell empty from then on."""
    need_house(house)
    stood = left(house, hours)
    if change[0] == "wall":
        return _without(stood, change[1])
    _, row, column = change
    if not has_cell(stood[1], row, column) or stood[1][row][column] == 0:
        raise NoSuch(f"there is no ice at row {row}, column {column} behind {hours} hours")
    return with_parts(stood, row, column, 0)


def costs(house, hours):
    """Tell for each wall how many parts less are left behind so many hours if it is gone from the begin on."""
    need_house(house)
    kept = _total_left(house, hours)
    return [kept - _total_left(_without(house, number), hours) for number in range(len(house[2]))]


def dearest(house, hours):
    """Tell (number, parts) of the wall that costs most, the first of several; None where there are no walls."""
    parts = costs(house, hours)
    if not parts:
        return None
    most = max(parts)
    return (parts.index(most), most)


def saved(house, hours):
    """Tell (wall, more) of the wall by which most more is left, the least of several; None if no face is bare."""
    need_house(house)
    heats, cells, walls = house
    kept = _total_left(house, hours)
    found = None
    for face in _bare_faces(cells, walls):
        more = _total_left((heats, cells, walls + (face,)), hours) - kept
        if found is None or more > found[1]:
            found = (face, more)
    return found


def _total_left(house, hours):
    return total(left(house, hours))


def _without(house, number):
    """Tell the house as it is with one wall gone; refuse with NoSuch a wall that there isn't."""
    heats, cells, walls = house
    if not is_number(number, len(walls) - 1):
        raise NoSuch(f"there is no wall {number}")
    return (heats, cells, walls[:number] + walls[number + 1:])


def _bare_faces(cells, walls):
    """Tell all faces without a wall, rising, each under its one name."""
    shut = shut_faces(walls)
    faces = [(row, column, side) for row, column in places(cells) for side in range(4)]
    return [face for face in faces if face not in shut and face_name(face[0], face[1], face[2]) == face]
