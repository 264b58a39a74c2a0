"""The console: lines that make a polytope, ask for what it is, and lead back."""

from facenumbers.answers import answer_of, asks_for_state
from facenumbers.errors import FaceError, InvalidFace, InvalidLines, InvalidText, NoPolytope, TooLong, TooMany
from facenumbers.making import made
from facenumbers.polytopes import facets_of
from facenumbers.sums import stacked_on
from facenumbers.texts import read_polytope
from facenumbers.words import read_counts, read_wholes, words_of

MOST_EARLIER = 20
MOST_LINES = 60
NOT_UNDERSTOOD = "not understood"


def fresh_console():
    """The console without a polytope."""
    return None, ()


def said(console, line):
    """The console behind the line, and the answer."""
    if not isinstance(line, str):
        raise InvalidLines(None)
    if words_of(line) == ["back"]:
        return gone_back(console)
    state, earlier = console
    new, answer = answered(state, line)
    if new == state:
        return console, answer
    return (new, (earlier + (state,))[-MOST_EARLIER:]), answer


def told_all(console, lines):
    """The console behind all lines, and the tuple of the answers."""
    if not isinstance(lines, tuple) or len(lines) > MOST_LINES:
        raise InvalidLines(None)
    for index, line in enumerate(lines):
        if not isinstance(line, str):
            raise InvalidLines(index)
    behind = console
    answers = []
    for line in lines:
        behind, answer = said(behind, line)
        answers.append(answer)
    return behind, tuple(answers)


def gone_back(console):
    earlier = console[1]
    if len(earlier) == 0:
        return console, "nothing there"
    return (earlier[-1], earlier[:-1]), "back"


def answered(state, line):
    """The state behind the line, and the answer."""
    words = words_of(line)
    if "\n" in line or len(words) == 0:
        return state, NOT_UNDERSTOOD
    if words_of(line.replace(";", " "))[:1] == ["dimension"]:
        return read_state(state, line)
    word, *behind = words
    if state is None and (word == "stack" or asks_for_state(word)):
        return state, "nothing yet"
    try:
        new, answer = told_by_word(state, word, behind)
    except FaceError:
        # What is asked for refuses numbers out of their bounds: these are no form of a line.
        return state, NOT_UNDERSTOOD
    return new, NOT_UNDERSTOOD if answer is None else answer


def told_by_word(state, word, words):
    if word == "make":
        return made_state(state, words)
    if word == "stack":
        return stacked_state(state, words)
    return state, answer_of(state, word, words)


def read_state(state, line):
    try:
        new = read_polytope(line.replace(";", "\n"))
    except InvalidText as wrong:
        at = wrong.index
        return state, "no polytope" if at is None else f"not read at {at}"
    return new, counted(new)


def made_state(state, words):
    dimension = read_counts(words[:1])
    row = read_wholes(words[1:])
    if not dimension or row is None:
        return state, None
    try:
        new = made(dimension[0], row)
    except NoPolytope as bar:
        word, at = bar.given
        return state, f"{word} {at}"
    return new, counted(new)


def stacked_state(state, words):
    facet = read_counts(words)
    if facet is None:
        return state, None
    try:
        new = stacked_on(state, facet)
    except InvalidFace:
        return state, "no facet"
    except TooMany as many:
        return state, f"too many: {many.given}"
    except TooLong as figures:
        return state, f"too long: {figures.given}"
    return new, counted(new)


def counted(polytope):
    return f"{len(polytope[1])} points, {len(facets_of(polytope))} facets"
