"""Claims that are so, with papers that the checker accepts."""

from facenumbers.checks import check_lacking_face, checked_facets
from facenumbers.errors import TooMany
from facenumbers.facerows import why_none
from facenumbers.hulls import is_part
from facenumbers.macaulay import first_fault
from facenumbers.making import made
from facenumbers.monomials import MOST_VARIABLES, first_ideal
from facenumbers.rings import taken
from facenumbers.shellings import first_break, is_shelling
from facenumbers.stacking import blocks_of, is_stacked
from facenumbers.supports import barring, supporting


def certify_row(dimension, row):
    """Whether the row is the face row of some polytope."""
    bar = why_none(dimension, row)
    if bar is None:
        return ("face row", dimension, row), made(dimension, row)
    return ("no face row", dimension, row), bar


def certify_sequence(sequence):
    """Whether the sequence is an M-sequence."""
    fault = first_fault(sequence)
    if fault is not None:
        return ("no M-sequence", sequence), fault
    if len(sequence) > 1 and sequence[1] > MOST_VARIABLES:
        raise TooMany(sequence[1])
    return ("M-sequence", sequence), first_ideal(sequence)


def certify_face(polytope, face):
    """Whether the set is a face."""
    facets = checked_facets(polytope)
    check_lacking_face(polytope, face)
    if any([is_part(face, facet) for facet in facets]):
        return ("face", polytope, face), supporting(polytope, face)
    return ("no face", polytope, face), barring(polytope, face)


def certify_counted(polytope):
    """That the taken monomials count the ranks of the polytope's ring."""
    return ("counted by", polytope, taken(polytope)), ()


def certify_ordering(polytope, ordering):
    """Whether the ordering is a shelling."""
    if is_shelling(polytope, ordering):
        return ("shelling", polytope, ordering), ()
    return ("no shelling", polytope, ordering), first_break(ordering)


def certify_stacked(polytope, number):
    """Whether the blocks for the number tile the polytope."""
    if is_stacked(polytope, number):
        return ("stacked", polytope, number), blocks_of(polytope, number)
    standing = [monomial for monomial in taken(polytope) if len(monomial) == number]
    return ("not stacked", polytope, number), standing[0]
