"""The nine functions that a house is handed to, each as a function of the house alone."""

from icehouse.houses import need_house, total
from icehouse.melting import lasting, left, melted, open_faces, rates, spans, traced

ASKED = (
    ("need_house", need_house),
    ("total", total),
    ("rates", rates),
    ("left", lambda house: left(house, 3)),
    ("open_faces", lambda house: open_faces(house, 0, 0)),
    ("spans", spans),
    ("melted", melted),
    ("traced", lambda house: traced(house, 0, 0)),
    ("lasting", lasting),
)
