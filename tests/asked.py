"""The eighteen functions that a house is handed to, each as a function of the house alone."""

from icehouse.errors import NoSuch
from icehouse.houses import need_house, total
from icehouse.melting import lasting, left, melted, open_faces, rates, spans, traced
from icehouse.plans import best, worked, worth
from icehouse.showing import shows
from icehouse.texts import written
from icehouse.walls import after, costs, dearest, saved

DEEDS = (("take", 2),)


def after_if_there(house, change):
    """What after tells, or None where there is no such wall or ice; a refused house is refused all the same."""
    try:
        return after(house, 1, change)
    except NoSuch:
        return None


ASKED = (
    ("need_house", need_house),
    ("total", total),
    ("rates", rates),
    ("left", lambda house: left(house, 3)),
    ("open_faces", lambda house: open_faces(house, 0, 0)),
    ("spans", spans),
    ("melted", melted),
    ("traced", lambda house: traced(house, 0, 0)),
    ("lasting", lasting),
    ("after a wall", lambda house: after_if_there(house, ("wall", 0))),
    ("after ice", lambda house: after_if_there(house, ("ice", 0, 0))),
    ("costs", lambda house: costs(house, 4)),
    ("dearest", lambda house: dearest(house, 4)),
    ("saved", lambda house: saved(house, 4)),
    ("worked", lambda house: worked(house, DEEDS, 5, (None,))),
    ("worth", lambda house: worth(house, DEEDS, 5, (None,))),
    ("best", lambda house: best(house, DEEDS, 5)),
    ("shows", lambda house: shows(house, DEEDS, 5, 10 ** 6, ("bound",))),
    ("written", written),
)
