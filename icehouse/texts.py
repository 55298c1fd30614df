"""Houses written as texts, and read from them."""

from icehouse.errors import BadText
from icehouse.houses import need_house

HEATS = "heats"
ROW = "row"
WALL = "wall"

MOST_FIGURES = 4


def written(house):
    """Tell a house as a text of rows with line ends between."""
    need_house(house)
    heats, cells, walls = house
    rows = [_written_row(HEATS, heats)]
    rows.extend([_written_row(ROW, row) for row in cells])
    rows.extend([_written_row(WALL, wall) for wall in walls])
    return "\n".join(rows)


def read(text):
    """Tell the house of a text; refuse with BadText other rows, with BadHouse good rows that make no house."""
    rows = [_read_row(row) for row in text.split("\n")]
    heats = _numbers_behind(HEATS, rows)
    cells = _numbers_behind(ROW, rows)
    walls = _numbers_behind(WALL, rows)
    if [word for word, _ in rows] != [HEATS] + [ROW] * len(cells) + [WALL] * len(walls):
        raise BadText("heats stand first and once, then rows, then walls")
    house = (heats[0], cells, walls)
    need_house(house)
    return house


def _written_row(word, numbers):
    return " ".join([word] + [str(number) for number in numbers])


def _read_row(row):
    """Tell (word, numbers) of a row, the numbers as a tuple."""
    word, *numbers = row.split(" ")
    if not _is_count(word, len(numbers)):
        raise BadText("a row is of heats and five numbers, row and one at least, or wall and three")
    if not all([_is_written_number(number) for number in numbers]):
        raise BadText("numbers are of up to four figures, written in the shortest way, with one blank ahead")
    return (word, tuple([int(number) for number in numbers]))


def _is_count(word, many):
    """Tell whether so many numbers stand behind a word; none do behind other words."""
    if word == HEATS:
        return many == 5
    if word == WALL:
        return many == 3
    return word == ROW and many > 0


def _is_written_number(figures):
    # Figures of other scripts count as digits to Python, too.
    if not figures.isascii() or not figures.isdigit() or len(figures) > MOST_FIGURES:
        return False
    return figures == "0" or figures[0] != "0"


def _numbers_behind(word, rows):
    return tuple([numbers for other, numbers in rows if other == word])
