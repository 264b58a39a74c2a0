"""Claims of numbers: what stands behind their words, and which papers show them to be so."""

from facenumbers.hulls import facets_or_none
from facenumbers.macaulay import is_too_many
from facenumbers.monomials import MOST_VARIABLES, counts_of, is_order_ideal
from facenumbers.rows import face_row, g_row, h_row
from facenumbers.values import (
    is_dimension, is_sequence, is_tuple_of_length, is_wanted_row, is_whole, is_whole_between,
)


def is_dimension_and_row(told):
    if not is_tuple_of_length(told, 2):
        return False
    dimension, row = told
    return is_dimension(dimension) and is_wanted_row(row, dimension)


def is_one_sequence(told):
    return len(told) == 1 and is_sequence(told[0])


def shows_face_row(told, paper):
    """A polytope that has the row."""
    dimension, row = told
    return facets_or_none(paper) is not None and paper[0] == dimension and face_row(paper) == row


def shows_no_face_row(told, paper):
    """The word and the place of what bars the row."""
    if not is_tuple_of_length(paper, 2) or not isinstance(paper[0], str) or not is_whole(paper[1]):
        return False
    dimension, row = told
    word, at = paper
    if word == "unlike":
        h = h_row(dimension, row)
        return 0 <= at <= dimension and h[at] != h[dimension - at]
    g = g_row(dimension, row)
    if word == "below":
        return 1 <= at < len(g) and g[at] < 0
    return word == "too many" and 2 <= at < len(g) and is_above_most(g, at)


def shows_m_sequence(told, paper):
    """An order ideal that the sequence counts."""
    sequence = told[0]
    variables = sequence[1] if len(sequence) > 1 else 0
    if not 0 <= variables <= MOST_VARIABLES or not is_order_ideal(variables, paper):
        return False
    counts = counts_of(variables, paper)
    return counts + (0,) * (len(sequence) - len(counts)) == sequence


def shows_no_m_sequence(told, paper):
    """The index of a number that is wrong."""
    sequence = told[0]
    if not is_whole_between(paper, 0, len(sequence) - 1):
        return False
    if paper == 0 and sequence[0] != 1:
        return True
    return sequence[paper] < 0 or is_above_most(sequence, paper)


def is_above_most(sequence, index):
    """Whether the number is too many behind one that is itself from 0 on."""
    return index >= 2 and sequence[index - 1] >= 0 and is_too_many(sequence, index)


# What must stand behind each word of a claim.
NUMBER_FORMS = {
    "face row": is_dimension_and_row,
    "no face row": is_dimension_and_row,
    "M-sequence": is_one_sequence,
    "no M-sequence": is_one_sequence,
}

# Whether a paper shows what stands behind the word.
NUMBER_PAPERS = {
    "face row": shows_face_row,
    "no face row": shows_no_face_row,
    "M-sequence": shows_m_sequence,
    "no M-sequence": shows_no_m_sequence,
}
