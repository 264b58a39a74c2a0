"""The text of a polytope: a row for its dimension, then one for each point."""

from facenumbers.checks import checked_facets
from facenumbers.errors import InvalidText
from facenumbers.hulls import facets_or_none
from facenumbers.ratios import lowest
from facenumbers.values import MOST_POINTS_BEYOND

FIGURES = "0123456789"
MOST_FIGURES = 40
DIMENSIONS = ("2", "3", "4", "5", "6", "7")


def show_polytope(polytope):
    """The text of a polytope."""
    checked_facets(polytope)
    dimension, points = polytope
    rows = [" ".join(["point"] + [shown_ratio(ratio) for ratio in point]) for point in points]
    return "\n".join([f"dimension {dimension}"] + rows)


def shown_ratio(ratio):
    over, under = ratio
    return str(over) if under == 1 else f"{over}/{under}"


def read_polytope(text):
    """The polytope of a text."""
    if not isinstance(text, str):
        raise InvalidText(None)
    rows = [words_of(row) for row in text.split("\n")]
    dimension = read_dimension(rows[0])
    if dimension is None:
        raise InvalidText(0)
    polytope = (dimension, read_points(dimension, rows))
    if facets_or_none(polytope) is None:
        raise InvalidText(None)
    return polytope


def read_points(dimension, rows):
    """The points of all rows but the first one."""
    points = []
    for index in range(1, len(rows)):
        point = read_point(dimension, rows[index])
        if point is None or index > dimension + MOST_POINTS_BEYOND:
            raise InvalidText(index)
        points.append(point)
    if len(points) <= dimension:
        raise InvalidText(len(rows))
    return tuple(points)


def words_of(row):
    # Not split() alone: it would part words at tabs and other signs, too.
    return [word for word in row.split(" ") if word != ""]


def read_dimension(words):
    """The dimension that a row tells; None if it tells none."""
    if len(words) != 2 or words[0] != "dimension" or words[1] not in DIMENSIONS:
        return None
    return int(words[1])


def read_point(dimension, words):
    """The point that a row tells; None if it tells none of the dimension."""
    if len(words) != dimension + 1 or words[0] != "point":
        return None
    point = tuple([read_ratio(word) for word in words[1:]])
    return None if None in point else point


def read_ratio(word):
    """The ratio that a word tells; None if it tells none."""
    over, sign, under = word.partition("/")
    if not is_told_whole(over):
        return None
    if sign == "":
        return int(over), 1
    if not is_told_figures(under) or under == "0":
        return None
    return lowest(int(over), int(under))


def is_told_whole(word):
    if word.startswith("-"):
        return word != "-0" and is_told_figures(word[1:])
    return is_told_figures(word)


def is_told_figures(word):
    # Not isdigit(): it takes figures of other scripts, too.
    if word == "" or len(word) > MOST_FIGURES or (word[0] == "0" and word != "0"):
        return False
    return all([sign in FIGURES for sign in word])
