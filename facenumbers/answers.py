"""What the console answers to lines that only ask.

Where a line is not understood the answers are None, or what they ask raises its error.
"""

from facenumbers.errors import NotGeneral
from facenumbers.facerows import least_row, most_row, rows_with
from facenumbers.macaulay import first_fault, most_next
from facenumbers.polytopes import facets_of, is_face, missing_faces
from facenumbers.rings import taken, told_by
from facenumbers.rows import face_row, g_row, h_row
from facenumbers.shellings import line_ordering
from facenumbers.stacking import blocks_of, is_stacked, volume
from facenumbers.stresses import stresses_of
from facenumbers.texts import show_polytope
from facenumbers.values import is_lacking_set
from facenumbers.words import (
    read_counts, read_ratios, read_wholes, shown_monomial, shown_ratio, shown_row, shown_sets,
)


def answer_rows(words):
    pair = read_pair(words)
    if pair is None:
        return None
    return "\n".join([shown_row(row) for row in rows_with(pair[0], pair[1])])


def answer_most(words):
    pair = read_pair(words)
    return None if pair is None else shown_row(most_row(pair[0], pair[1]))


def answer_least(words):
    pair = read_pair(words)
    return None if pair is None else shown_row(least_row(pair[0], pair[1]))


def answer_next(words):
    pair = read_pair(words)
    return None if pair is None else str(most_next(pair[0], pair[1]))


def read_pair(words):
    """Two counts; None if the words tell no such."""
    counts = read_counts(words)
    return None if counts is None or len(counts) != 2 else counts


def answer_sequence(words):
    sequence = read_wholes(words)
    if sequence is None:
        return None
    fault = first_fault(sequence)
    return "M-sequence" if fault is None else f"fails at {fault}"


def answer_show(state):
    return show_polytope(state).replace("\n", "; ")


def answer_row(state):
    return shown_row(face_row(state))


def answer_h(state):
    return shown_row(h_row(state[0], face_row(state)))


def answer_g(state):
    return shown_row(g_row(state[0], face_row(state)))


def answer_facets(state):
    return shown_sets(facets_of(state))


def answer_missing(state):
    return shown_sets(missing_faces(state))


def answer_taken(state):
    return " ".join([shown_monomial(monomial) for monomial in taken(state)])


def answer_volume(state):
    return shown_ratio(volume(state))


def answer_stresses(state):
    return str(len(stresses_of(state)))


def answer_face(state, words):
    face = read_counts(words)
    if not is_lacking_set(face, len(state[1])):
        return None
    return "face" if is_face(state, face) else "no face"


def answer_product(state, words):
    told = told_by(state, read_counts(words))
    if len(told) == 0:
        return "0"
    return " + ".join([f"{shown_ratio(ratio)} {shown_monomial(monomial)}" for monomial, ratio in told])


def answer_shell(state, words):
    try:
        return shown_sets(line_ordering(state, read_ratios(words)))
    except NotGeneral:
        return "not general"


def answer_stacked(state, words):
    counts = read_counts(words)
    if counts is None or len(counts) != 1:
        return None
    number = counts[0]
    return "stacked: " + shown_sets(blocks_of(state, number)) if is_stacked(state, number) else "not stacked"


OF_WORDS = {
    "rows": answer_rows,
    "most": answer_most,
    "least": answer_least,
    "next": answer_next,
    "sequence": answer_sequence,
}

OF_STATE = {
    "show": answer_show,
    "row": answer_row,
    "h": answer_h,
    "g": answer_g,
    "facets": answer_facets,
    "missing": answer_missing,
    "taken": answer_taken,
    "volume": answer_volume,
    "stresses": answer_stresses,
}

OF_STATE_AND_WORDS = {
    "face": answer_face,
    "product": answer_product,
    "shell": answer_shell,
    "stacked": answer_stacked,
}


def asks_for_state(word):
    return word in OF_STATE or word in OF_STATE_AND_WORDS


def answer_of(state, word, words):
    """The answer to a word that asks, and to those behind it."""
    if word in OF_WORDS:
        of_words = OF_WORDS[word]
        return of_words(words)
    if word in OF_STATE and len(words) == 0:
        of_state = OF_STATE[word]
        return of_state(state)
    if word in OF_STATE_AND_WORDS:
        of_both = OF_STATE_AND_WORDS[word]
        return of_both(state, words)
    return None
