"""Monomials in order, and order ideals of them."""

from math import comb

from facenumbers.checks import check_number, check_sequence
from facenumbers.errors import InvalidIdeal, NoSequence, TooMany
from facenumbers.macaulay import first_fault
from facenumbers.values import is_monomial

GREATEST_DEGREE = 6
MOST_VARIABLES = 6
MOST_MONOMIALS = 500


def monomials(variables, degree):
    """All monomials of the degree in so many variables, in order."""
    check_variables(variables)
    check_number(degree, 0, GREATEST_DEGREE)
    # C(variables + degree - 1, degree), but degree 0 has one for no variables, too.
    many = 1 if degree == 0 else comb(variables + degree - 1, degree)
    return tuple(first_monomials(many, degree))


def is_order_ideal(variables, value):
    """Whether the value, whatever it is, is an order ideal in so many variables."""
    check_variables(variables)
    return has_ideal_form(value, variables)


def compressed(sequence):
    """The order ideal of the first monomials of each degree, as many as the sequence tells."""
    check_sequence(sequence)
    fault = first_fault(sequence)
    if fault is not None:
        raise NoSequence(fault)
    many = sum(sequence)
    if many > MOST_MONOMIALS:
        raise TooMany(many)
    return first_ideal(sequence)


def counts_of(variables, ideal):
    """How many monomials of each degree the order ideal has, up to its greatest degree."""
    check_variables(variables)
    if not has_ideal_form(ideal, variables):
        raise InvalidIdeal(ideal)
    counts = [0] * (len(ideal[-1]) + 1)
    for monomial in ideal:
        counts[len(monomial)] += 1
    return tuple(counts)


def check_variables(variables):
    check_number(variables, 0, MOST_VARIABLES)


def first_ideal(sequence):
    """The compressed order ideal of what surely is an M-sequence."""
    found = []
    for degree, number in enumerate(sequence):
        found.extend(first_monomials(number, degree))
    return tuple(found)


def first_monomials(many, degree):
    """The first monomials of the degree, in order: they need as few variables as can be."""
    found = []
    monomial = (1,) * degree
    for _ in range(many):
        found.append(monomial)
        monomial = monomial_behind(monomial)
    return found


def monomial_behind(monomial):
    """The next monomial of the same degree in order; () has none, and is told itself."""
    for at, variable in enumerate(monomial):
        if at == len(monomial) - 1 or variable < monomial[at + 1]:
            return (1,) * at + (variable + 1,) + monomial[at + 1:]
    return monomial


def place_in_order(monomial):
    """What is compared when monomials are put in order."""
    return len(monomial), monomial[::-1]


def has_ideal_form(value, variables):
    if not isinstance(value, tuple) or not all([is_monomial(part, variables) for part in value]):
        return False
    places = [place_in_order(monomial) for monomial in value]
    ascending = all([places[at - 1] < places[at] for at in range(1, len(places))])
    return ascending and () in value and has_all_divisors(value)


def has_all_divisors(ideal):
    """Whether the monomials without any one of their variables are there: so are all that divide."""
    known = set(ideal)
    return all([lesser in known for monomial in ideal for lesser in lesser_ones(monomial)])


def lesser_ones(monomial):
    """The monomials of one degree less that divide it, each once."""
    ends = [at for at, variable in enumerate(monomial) if at == 0 or variable != monomial[at - 1]]
    return [monomial[:at] + monomial[at + 1:] for at in ends]
