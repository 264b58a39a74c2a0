"""Words of texts and lines: numbers, rows, sets and monomials, told and shown."""

from facenumbers.ratios import lowest
from facenumbers.values import MOST_FIGURES

FIGURES = "0123456789"
MOST_COUNT_FIGURES = 4
MOST_WHOLE_FIGURES = 9
CHUNK = 10 ** 60
FIGURES_OF_CHUNK = 60


def words_of(row):
    # Not split() alone: it would part words at tabs and other signs, too.
    return [word for word in row.split(" ") if word != ""]


def is_figures(word, most):
    """Whether the word is up to so many figures without noughts ahead, or 0."""
    # Not isdigit(): it takes figures of other scripts, too.
    if word == "" or len(word) > most or (word[0] == "0" and word != "0"):
        return False
    return all([sign in FIGURES for sign in word])


def is_whole_word(word, most):
    """Whether the word is such figures, with a - ahead or not, but not of 0."""
    if word.startswith("-"):
        return word != "-0" and is_figures(word[1:], most)
    return is_figures(word, most)


def read_counts(words):
    """The tuple of the numbers that the words tell; None if one is not up to four figures."""
    if not all([is_figures(word, MOST_COUNT_FIGURES) for word in words]):
        return None
    return tuple([int(word) for word in words])


def read_wholes(words):
    """The tuple of the whole numbers that the words tell; None if one is not up to nine figures."""
    if not all([is_whole_word(word, MOST_WHOLE_FIGURES) for word in words]):
        return None
    return tuple([int(word) for word in words])


def read_ratio(word):
    """The ratio that a word tells; None if it tells none."""
    over, sign, under = word.partition("/")
    if not is_whole_word(over, MOST_FIGURES):
        return None
    if sign == "":
        return int(over), 1
    if not is_figures(under, MOST_FIGURES) or under == "0":
        return None
    return lowest(int(over), int(under))


def read_ratios(words):
    """The tuple of the ratios that the words tell; None if one tells none."""
    ratios = tuple([read_ratio(word) for word in words])
    return None if None in ratios else ratios


def shown_whole(number):
    # Python refuses to show whole numbers of some thousands of figures at once.
    left = abs(number)
    figures = ""
    while left >= CHUNK:
        left, part = divmod(left, CHUNK)
        figures = str(part).zfill(FIGURES_OF_CHUNK) + figures
    return ("-" if number < 0 else "") + str(left) + figures


def shown_ratio(ratio):
    over, under = ratio
    return shown_whole(over) if under == 1 else f"{shown_whole(over)}/{shown_whole(under)}"


def shown_row(row):
    return " ".join([str(number) for number in row])


def shown_set(face):
    return "-".join([str(index) for index in face]) if face else "none"


def shown_sets(faces):
    return " ".join([shown_set(face) for face in faces]) if faces else "none"


def shown_monomial(monomial):
    return "*".join([f"x{variable}" for variable in monomial]) if monomial else "1"
