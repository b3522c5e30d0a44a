"""Ranks, inverses, kernels, solutions and normal forms of matrices."""

from barswoven.errors import Singular
from barswoven.field import inverse_of
from barswoven.matrix import Matrix


def rank(matrix):
    """The greatest number of independent columns."""
    _, places = reduced(matrix.rows, matrix.width, matrix.base)
    return len(places)


def inverse(matrix):
    """The matrix whose product with this one is the identity."""
    _, left, places = _worked_out(matrix)
    if matrix.height != matrix.width or len(places) < matrix.width:
        raise Singular("the matrix has no inverse")
    return left


def solve(matrix, vector):
    """A solution, or factors of the rows that show that there is none."""
    _, left, places = _worked_out(matrix)
    wanted = left.apply(vector)
    # The rows behind those with a leading one are zero: what is wanted of them must be 0, too.
    for at in range(len(places), matrix.height):
        if wanted[at] != 0:
            return ("refuted", left.rows[at])
    solution = [0] * matrix.width
    for place, entry in zip(places, wanted):
        solution[place] = entry
    return ("solution", tuple(solution))


def kernel(matrix):
    """The list of the vectors of a base of the kernel, one for each free place.

    Each has a 1 at its own free place and a 0 at the other ones.
    """
    rows, places = reduced(matrix.rows, matrix.width, matrix.base)
    return _kernel_of(rows, places, matrix.width, matrix.base)


def normal(matrix):
    """The rank, left, its inverse, right and its inverse: left * matrix * right has ones and zeros alone."""
    rows, left, places = _worked_out(matrix)
    base, width = matrix.base, matrix.width
    units = Matrix.identity(base, width).rows
    columns = [units[place] for place in places] + _kernel_of(rows, places, width, base)
    right = Matrix.of_columns(base, width, columns)
    back = rows[:len(places)] + [units[place] for place in free_places(places, width)]
    return (len(places), left, inverse(left), right, Matrix(base, width, back))


def reduced(rows, width, base):
    """The reduced form of the rows, by their first width places, and the places of the leading ones.

    The k-th row has a 1 at the k-th of these places, where all other rows have a 0. The rows behind the leading
    ones have zeros alone at the first width places.
    """
    leads, rest, places = [], [list(row) for row in rows], []
    for place in range(width):
        at = _first_with_entry(rest, place)
        if at is not None:
            factor = inverse_of(rest[at][place], base=base)
            lead = [factor * entry % base for entry in rest[at]]
            leads = [_cleared(row, lead, place, base) for row in leads] + [lead]
            rest = [_cleared(row, lead, place, base) for row in rest[:at] + rest[at + 1:]]
            places.append(place)
    return leads + rest, places


def free_places(places, width):
    """The list of the places below width that are not among these."""
    return [place for place in range(width) if place not in places]


def _first_with_entry(rows, place):
    for at, row in enumerate(rows):
        if row[place] != 0:
            return at
    return None


def _cleared(row, lead, place, base):
    """The row less the multiple of the leading row that leaves a 0 at the place."""
    factor = row[place]
    if factor == 0:
        return row
    return [(entry - factor * other) % base for entry, other in zip(row, lead)]


def _worked_out(matrix):
    """The reduced rows, the matrix by whose product they come of the given one, and their leading places."""
    base, width = matrix.base, matrix.width
    units = Matrix.identity(base, matrix.height).rows
    joined = [row + unit for row, unit in zip(matrix.rows, units)]
    rows, places = reduced(joined, width, base)
    left = Matrix(base, matrix.height, [row[width:] for row in rows])
    return [row[:width] for row in rows], left, places


def _kernel_of(rows, places, width, base):
    """The base of the kernel of reduced rows with these leading places."""
    return [_kernel_vector(rows, places, free, width, base) for free in free_places(places, width)]


def _kernel_vector(rows, places, free, width, base):
    vector = [0] * width
    vector[free] = 1
    for place, row in zip(places, rows):
        vector[place] = -row[free] % base
    return tuple(vector)
