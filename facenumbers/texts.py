"""The text of a polytope: a row for its dimension, then one for each point."""

from facenumbers.checks import checked_facets
from facenumbers.errors import InvalidText
from facenumbers.hulls import facets_or_none
from facenumbers.values import MOST_POINTS_BEYOND
from facenumbers.words import read_ratios, shown_ratio, words_of

DIMENSIONS = ("2", "3", "4", "5", "6", "7")


def show_polytope(polytope):
    """The text of a polytope."""
    checked_facets(polytope)
    dimension, points = polytope
    rows = [" ".join(["point"] + [shown_ratio(ratio) for ratio in point]) for point in points]
    return "\n".join([f"dimension {dimension}"] + rows)


def read_polytope(text):
    """The polytope of a text."""
    if not isinstance(text, str):
        raise InvalidText(None)
    rows = [words_of(row) for row in text.split("\n")]
    dimension = read_dimension(rows[0])
    if dimension is None:
        raise InvalidText(0)
    polytope = (dimension, read_points(dimension, rows))
    if facets_or_none(polytope) is None:
        raise InvalidText(None)
    return polytope


def read_points(dimension, rows):
    """The points of all rows but the first one."""
    points = []
    for index in range(1, len(rows)):
        point = read_point(dimension, rows[index])
        if point is None or index > dimension + MOST_POINTS_BEYOND:
            raise InvalidText(index)
        points.append(point)
    if len(points) <= dimension:
        raise InvalidText(len(rows))
    return tuple(points)


def read_dimension(words):
    """The dimension that a row tells; None if it tells none."""
    if len(words) != 2 or words[0] != "dimension" or words[1] not in DIMENSIONS:
        return None
    return int(words[1])


def read_point(dimension, words):
    """The point that a row tells; None if it tells none of the dimension."""
    if len(words) != dimension + 1 or words[0] != "point":
        return None
    return read_ratios(words[1:])
