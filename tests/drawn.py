"""Drawn matrices, rows and bars, and slow ways to judge them, for the tests of all modules."""

from itertools import combinations

from barswoven.bars import row_of_bars
from barswoven.lagmap import LagMap
from barswoven.matrix import Matrix
from barswoven.row import Row

BASES = (2, 3, 7, 97)


def any_matrix(chance, base, height, width):
    return Matrix(base, width, [[chance.randrange(base) for _ in range(width)] for _ in range(height)])


def of_drawn_rank(chance, base, height, width):
    """A product through a space of a drawn dimension, so that low ranks are not rare."""
    between = chance.randrange(min(height, width) + 1)
    return any_matrix(chance, base, height, between) * any_matrix(chance, base, between, width)


def change_of_base(chance, base, size):
    """A drawn matrix and its inverse, made side by side of multiples and sums of rows."""
    there, back = Matrix.identity(base, size), Matrix.identity(base, size)
    for _ in range(3 * size):
        one, other = chance.randrange(size), chance.randrange(size)
        factor = chance.randrange(1, base)
        if one == other:
            undone = next(number for number in range(base) if number * factor % base == 1)
            there, back = _unit(base, size, one, one, factor) * there, back * _unit(base, size, one, one, undone)
        else:
            undone = (base - factor) % base
            there, back = _unit(base, size, one, other, factor) * there, back * _unit(base, size, one, other, undone)
    return there, back


def _unit(base, size, at, place, entry):
    rows = [[int(one == other) for other in range(size)] for one in range(size)]
    rows[at][place] = entry
    return Matrix(base, size, rows)


def any_row(chance, base, last, most):
    dims = [chance.randrange(most + 1) for _ in range(last + 1)]
    return Row(base, dims, [of_drawn_rank(chance, base, dims[t + 1], dims[t]) for t in range(last)])


def moved(chance, row):
    """The row behind a drawn change of base at each time, and the changes with their inverses."""
    changes = [change_of_base(chance, row.base, size) for size in row.dims]
    steps = [changes[t + 1][0] * step * changes[t][1] for t, step in enumerate(row.steps)]
    return Row(row.base, row.dims, steps), changes


def any_bars(chance, last, many):
    """Drawn bars that fit into a row, unsorted and with doubles."""
    found = []
    for _ in range(many):
        birth = chance.randrange(last + 1)
        death = chance.choice([None, *range(birth + 1, last + 1)])
        found.append((birth, death))
    return found + [chance.choice(found) for _ in range(many // 4)]


def by_hand(bar):
    """What bars are sorted by: None is later than each number."""
    return (bar[0], float("inf") if bar[1] is None else bar[1])


def is_alive(bar, time):
    return bar[0] <= time and (bar[1] is None or time < bar[1])


def determinant(rows):
    if not rows:
        return 1
    return sum(
        (-1) ** place * entry * determinant([row[:place] + row[place + 1:] for row in rows[1:]])
        for place, entry in enumerate(rows[0])
    )


def rank_by_minors(matrix):
    """The greatest size of a square part whose determinant is not 0."""
    for size in range(min(matrix.height, matrix.width), 0, -1):
        for rows in combinations(matrix.rows, size):
            for places in combinations(range(matrix.width), size):
                if determinant([[row[place] for place in places] for row in rows]) % matrix.base:
                    return size
    return 0


def rank_of_vectors(vectors, base):
    """How many of the vectors depend on none before them, by what is left of each."""
    leads = {}
    for vector in vectors:
        left = list(vector)
        for place in range(len(left)):
            if left[place] and place in leads:
                factor = left[place]
                left = [(one - factor * other) % base for one, other in zip(left, leads[place])]
            elif left[place]:
                undone = pow(left[place], base - 2, base) if base > 2 else 1
                leads[place] = [undone * entry % base for entry in left]
                break
    return len(leads)


def rank_by_rows(matrix):
    return rank_of_vectors(matrix.rows, matrix.base)


def placed(chance, base, last, told):
    """A row with these bars behind drawn changes of base, with the changes."""
    row, changes = moved(chance, row_of_bars(base, last, told))
    return row, changes, list(told)


def any_placed(chance, base, last, many):
    return placed(chance, base, last, any_bars(chance, last, chance.randrange(many + 1)))


def has_map(bar, other, lag):
    """True if some map with the lag takes a vector that lives as the bar to one that lives as the other."""
    birth, death = (number if number is not None else 10 ** 6 for number in bar)
    other_birth, other_death = (number if number is not None else 10 ** 6 + lag for number in other)
    return other_birth <= birth + lag < other_death <= death + lag


def factors_of(chance, base, ours, theirs, lag):
    """Drawn factors for each two bars of which there is a map."""
    return {
        (i, j): chance.randrange(base)
        for i, bar in enumerate(ours) for j, other in enumerate(theirs) if has_map(bar, other, lag)
    }


def parts_of(one, other, factors, lag):
    """The parts that take the vectors of the bars to each other by the factors."""
    (row, changes, ours), (target, behind, theirs) = one, other
    parts = []
    for time in range(max(row.last, target.last) + 1):
        here = [i for i, bar in enumerate(ours) if is_alive(bar, time)]
        there = [j for j, bar in enumerate(theirs) if is_alive(bar, time + lag)]
        middle = Matrix(row.base, len(here), [[factors.get((i, j), 0) for i in here] for j in there])
        parts.append(behind[min(time + lag, target.last)][0] * middle * changes[min(time, row.last)][1])
    return parts


def map_of(chance, one, other, lag):
    """A drawn map with the lag between two placed rows."""
    factors = factors_of(chance, one[0].base, one[2], other[2], lag)
    return LagMap(one[0], other[0], lag, parts_of(one, other, factors, lag))


def are_close(bar, other, lag):
    """True if the bars are near within the lag, after point [21]."""
    if (bar[1] is None) != (other[1] is None):
        return False
    return abs(bar[0] - other[0]) <= lag and (bar[1] is None or abs(bar[1] - other[1]) <= lag)


def lasts(bar, lag):
    """True if the bar is long, after point [21]."""
    return bar[1] is None or bar[1] - bar[0] > 2 * lag


def judge_pairing(first, second, pairs, lag):
    """The rules of a pairing, after point [21]."""
    ours, theirs = [one for one, _ in pairs], [other for _, other in pairs]
    if ours != sorted(ours) or len(set(ours)) < len(ours) or len(set(theirs)) < len(theirs):
        return False
    if any(one not in range(len(first)) for one in ours) or any(other not in range(len(second)) for other in theirs):
        return False
    if not all(are_close(first[one], second[other], lag) for one, other in pairs):
        return False
    alone = [bar for place, bar in enumerate(first) if place not in ours]
    alone += [bar for place, bar in enumerate(second) if place not in theirs]
    return not any(lasts(bar, lag) for bar in alone)


def judge_lot(first, second, side, places, lag):
    """The rules of a lonely lot, after point [22]."""
    ours, theirs = (first, second) if side == "first" else (second, first)
    if list(places) != sorted(places) or len(set(places)) < len(places):
        return False
    if any(place not in range(len(ours)) or not lasts(ours[place], lag) for place in places):
        return False
    near = {j for j, other in enumerate(theirs) for place in places if are_close(ours[place], other, lag)}
    return len(near) < len(places)


def judge_apart(first, second, side, places):
    """The rules of point [23] for lists of bars that have no pairing within any lag."""
    ours, theirs = (first, second) if side == "first" else (second, first)
    if list(places) != sorted(places) or len(set(places)) < len(places):
        return False
    if any(place not in range(len(ours)) or ours[place][1] is not None for place in places):
        return False
    return len(places) > len([bar for bar in theirs if bar[1] is None])


def shaken(chance, told, last, lag):
    """Bars with a pairing with the told ones within the lag, and the pairs."""
    found, pairs = [], []
    for place, (birth, death) in enumerate(told):
        if lasts((birth, death), lag) or chance.randrange(2):
            for _ in range(100):
                start = min(max(birth + chance.randint(-lag, lag), 0), last)
                end = None if death is None else min(max(death + chance.randint(-lag, lag), 1), last)
                if end is None or start < end:
                    pairs.append((place, len(found)))
                    found.append((start, end))
                    break
    for birth in range(last):
        if lag and chance.randrange(3) == 0:
            found.append((birth, chance.randint(birth + 1, min(birth + 2 * lag, last))))
    order = list(range(len(found)))
    chance.shuffle(order)
    mixed = [found[place] for place in order]
    return mixed, tuple((one, order.index(other)) for one, other in pairs)
