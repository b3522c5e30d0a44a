"""Drawn matrices, rows and bars, and slow ways to judge them, for the tests of all modules."""

from itertools import combinations

from barswoven.matrix import Matrix
from barswoven.row import Row

BASES = (2, 3, 7, 97)


def any_matrix(chance, base, height, width):
    return Matrix(base, width, [[chance.randrange(base) for _ in range(width)] for _ in range(height)])


def of_drawn_rank(chance, base, height, width):
    """A product through a space of a drawn dimension, so that low ranks are not rare."""
    between = chance.randrange(min(height, width) + 1)
    return any_matrix(chance, base, height, between) * any_matrix(chance, base, between, width)


def change_of_base(chance, base, size):
    """A drawn matrix and its inverse, made side by side of multiples and sums of rows."""
    there, back = Matrix.identity(base, size), Matrix.identity(base, size)
    for _ in range(3 * size):
        one, other = chance.randrange(size), chance.randrange(size)
        factor = chance.randrange(1, base)
        if one == other:
            undone = next(number for number in range(base) if number * factor % base == 1)
            there, back = _unit(base, size, one, one, factor) * there, back * _unit(base, size, one, one, undone)
        else:
            undone = (base - factor) % base
            there, back = _unit(base, size, one, other, factor) * there, back * _unit(base, size, one, other, undone)
    return there, back


def _unit(base, size, at, place, entry):
    rows = [[int(one == other) for other in range(size)] for one in range(size)]
    rows[at][place] = entry
    return Matrix(base, size, rows)


def any_row(chance, base, last, most):
    dims = [chance.randrange(most + 1) for _ in range(last + 1)]
    return Row(base, dims, [of_drawn_rank(chance, base, dims[t + 1], dims[t]) for t in range(last)])


def moved(chance, row):
    """The row behind a drawn change of base at each time, and the changes with their inverses."""
    changes = [change_of_base(chance, row.base, size) for size in row.dims]
    steps = [changes[t + 1][0] * step * changes[t][1] for t, step in enumerate(row.steps)]
    return Row(row.base, row.dims, steps), changes


def any_bars(chance, last, many):
    """Drawn bars that fit into a row, unsorted and with doubles."""
    found = []
    for _ in range(many):
        birth = chance.randrange(last + 1)
        death = chance.choice([None, *range(birth + 1, last + 1)])
        found.append((birth, death))
    return found + [chance.choice(found) for _ in range(many // 4)]


def by_hand(bar):
    """What bars are sorted by: None is later than each number."""
    return (bar[0], float("inf") if bar[1] is None else bar[1])


def is_alive(bar, time):
    return bar[0] <= time and (bar[1] is None or time < bar[1])


def determinant(rows):
    if not rows:
        return 1
    return sum(
        (-1) ** place * entry * determinant([row[:place] + row[place + 1:] for row in rows[1:]])
        for place, entry in enumerate(rows[0])
    )


def rank_by_minors(matrix):
    """The greatest size of a square part whose determinant is not 0."""
    for size in range(min(matrix.height, matrix.width), 0, -1):
        for rows in combinations(matrix.rows, size):
            for places in combinations(range(matrix.width), size):
                if determinant([[row[place] for place in places] for row in rows]) % matrix.base:
                    return size
    return 0


def rank_of_vectors(vectors, base):
    """How many of the vectors depend on none before them, by what is left of each."""
    leads = {}
    for vector in vectors:
        left = list(vector)
        for place in range(len(left)):
            if left[place] and place in leads:
                factor = left[place]
                left = [(one - factor * other) % base for one, other in zip(left, leads[place])]
            elif left[place]:
                undone = pow(left[place], base - 2, base) if base > 2 else 1
                leads[place] = [undone * entry % base for entry in left]
                break
    return len(leads)


def rank_by_rows(matrix):
    return rank_of_vectors(matrix.rows, matrix.base)
