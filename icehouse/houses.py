"""What a house is: a tuple (heats, cells, walls) of whole numbers within bounds."""

from icehouse.errors import BadHouse

NORTH = 0
EAST = 1
SOUTH = 2
WEST = 3
AIR = 4

# How far the rows and columns of the cell behind a side differ, by sides.
STEPS = ((-1, 0), (0, 1), (1, 0), (0, -1))

MOST_HEAT = 9
MOST_PARTS = 9999
MOST_ROWS = 4
MOST_COLUMNS = 4
MOST_WALLS = 40


def need_house(house):
    """Refuse with BadHouse whatever is no house."""
    if not isinstance(house, tuple) or len(house) != 3:
        raise BadHouse("a house is a tuple of heats, cells and walls")
    heats, cells, walls = house
    _need_heats(heats)
    _need_cells(cells)
    _need_faces(walls, cells)


def total(house):
    """Tell all parts of a house together."""
    need_house(house)
    return sum([sum(row) for row in house[1]])


def is_number(value, most):
    """Tell whether a value is a whole number from 0 to the most."""
    # True and False are integers to Python, but no numbers to the document.
    return isinstance(value, int) and not isinstance(value, bool) and 0 <= value <= most


def has_cell(cells, row, column):
    """Tell whether there is a cell at a row and a column."""
    return 0 <= row < len(cells) and 0 <= column < len(cells[0])


def places(cells):
    """Tell (row, column) of all cells, row by row."""
    return [(row, column) for row in range(len(cells)) for column in range(len(cells[0]))]


def face_name(row, column, side):
    """Tell the one name of a face: one between two cells has that of its north or west cell."""
    if side == NORTH and row > 0:
        return (row - 1, column, SOUTH)
    if side == WEST and column > 0:
        return (row, column - 1, EAST)
    return (row, column, side)


def shut_faces(walls):
    """Tell a dict with the name of each face that has a wall."""
    return {face_name(row, column, side): True for row, column, side in walls}


def with_parts(house, row, column, parts):
    """Tell the house as it is with so many parts in one cell."""
    heats, cells, walls = house
    changed = cells[row][:column] + (parts,) + cells[row][column + 1:]
    return (heats, cells[:row] + (changed,) + cells[row + 1:], walls)


def _need_heats(heats):
    if not _are_numbers(heats, MOST_HEAT) or len(heats) != 5:
        raise BadHouse("heats are a tuple of five numbers from 0 to 9")


def _need_cells(cells):
    if not isinstance(cells, tuple) or not 1 <= len(cells) <= MOST_ROWS:
        raise BadHouse("cells are a tuple of one to four rows")
    for row in cells:
        if not _are_numbers(row, MOST_PARTS) or not 1 <= len(row) <= MOST_COLUMNS:
            raise BadHouse("a row is a tuple of one to four numbers from 0 to 9999")
        if len(row) != len(cells[0]):
            raise BadHouse("all rows are of one length")


def _need_faces(walls, cells):
    if not isinstance(walls, tuple) or len(walls) > MOST_WALLS:
        raise BadHouse("walls are a tuple of up to forty faces")
    for wall in walls:
        if not _is_face(wall, cells):
            raise BadHouse("a wall is a tuple of the row, the column and the side of a cell")
    if len(shut_faces(walls)) < len(walls):
        raise BadHouse("no face has two walls")


def _is_face(wall, cells):
    if not isinstance(wall, tuple) or len(wall) != 3:
        return False
    row, column, side = wall
    return is_number(row, len(cells) - 1) and is_number(column, len(cells[0]) - 1) and is_number(side, WEST)


def _are_numbers(values, most):
    return isinstance(values, tuple) and all([is_number(value, most) for value in values])
