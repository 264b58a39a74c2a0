"""Linear equations and determinants in whole numbers, without any fraction."""

from math import gcd

PRIME = 2 ** 61 - 1


def primitive(numbers):
    """The numbers, not all 0, without their greatest common divisor."""
    common = 0
    for number in numbers:
        common = gcd(common, number)
    return [number // common for number in numbers]


def pivot_row(rows, first, column):
    """The first row, from the told one on, that is not 0 in the column; None if there is none."""
    for at in range(first, len(rows)):
        if rows[at][column] != 0:
            return at
    return None


def swept(rows, at, column, divisor):
    """The rows, with noughts in the column but for the row at which the pivot stands.

    The divisor is the pivot ahead. All numbers are minors of the first rows (Bareiss),
    so the divisions leave nothing over, and the numbers stay as short as minors are.
    """
    chosen = rows[at]
    pivot = chosen[column]
    found = []
    for row in rows:
        factor = row[column]
        found.append([(pivot * one - factor * two) // divisor for one, two in zip(row, chosen)])
    found[at] = chosen
    return found


def reduced(rows, width):
    """A triple: the rows solved for their pivot columns, these columns, and the divisor.

    Row K has the divisor in the K-th pivot column, where all other rows have 0. Each
    column that is no pivot is spanned by those ahead of it.
    """
    rows = [list(row) for row in rows]
    pivots = []
    divisor = 1
    for column in range(width):
        at = len(pivots)
        chosen = pivot_row(rows, at, column)
        if chosen is not None:
            rows[at], rows[chosen] = rows[chosen], rows[at]
            rows = swept(rows, at, column, divisor)
            divisor = rows[at][column]
            pivots.append(column)
    return rows[:len(pivots)], pivots, divisor


def is_full_modulo_prime(rows, width):
    """Whether the rows have the rank width modulo a prime: then they have it in any case.

    This takes little time even for numbers of thousands of figures. Where it is not so,
    nothing is said.
    """
    rows = [[number % PRIME for number in row] for row in rows]
    for column in range(width):
        at = pivot_row(rows, column, column)
        if at is None:
            return False
        rows[column], rows[at] = rows[at], rows[column]
        chosen = rows[column]
        for below in range(column + 1, len(rows)):
            factor = rows[below][column]
            rows[below] = [
                (chosen[column] * one - factor * two) % PRIME for one, two in zip(rows[below], chosen)
            ]
    return True


def kernel(rows, width):
    """A basis, in primitive whole numbers, of what each row is perpendicular to."""
    solved, pivots, divisor = reduced(rows, width)
    basis = []
    for free in range(width):
        if free not in pivots:
            vector = [0] * width
            vector[free] = divisor
            for row, pivot in zip(solved, pivots):
                vector[pivot] = -row[free]
            basis.append(primitive(vector))
    return basis


def determinant(rows):
    # By the first row: what is asked for has three rows at most.
    if len(rows) == 0:
        return 1
    total = 0
    for at, number in enumerate(rows[0]):
        lesser = determinant([row[:at] + row[at + 1:] for row in rows[1:]])
        total += -number * lesser if at % 2 == 1 else number * lesser
    return total


def determinant_size(rows):
    """The determinant, without its sign, of as many rows as they have numbers."""
    _, pivots, divisor = reduced(rows, len(rows))
    # All numbers are minors, so the last pivot is the greatest one.
    return abs(divisor) if len(pivots) == len(rows) else 0
