"""Rows of the cycles of a growth, and the weaving of two growths with the same pieces."""

from barswoven.bars import lives, row_of_bars
from barswoven.errors import InvalidGrowth
from barswoven.lagmap import LagMap
from barswoven.matrix import Matrix
from barswoven.reducing import bar_of_partners, less_times, made_cycles
from barswoven.solving import rank
from barswoven.weaving import Weaving


def hole_row(growth, degree, *, base):
    """A row of the cycles of the degree, with its cycles."""
    return _row_of_holes(growth, degree, _holes(growth, degree, base), base)


def is_hole_row(growth, degree, row, cycles):
    """True if the row with these cycles is a row of the cycles of the degree, otherwise False."""
    whole = growth.borders(degree, growth.last, row.base)
    return (
        row.last == growth.last
        and [len(found) for found in cycles] == list(row.dims)
        and all([
            _is_cycle_there(vector, growth.amount(degree, time), whole)
            for time, found in enumerate(cycles) for vector in found
        ])
        and all([_is_base_at(growth, degree, row, cycles, time) for time in range(growth.last + 1)])
        and all([_is_step(growth, degree, row, cycles, time) for time in range(growth.last)])
    )


def weave_heights(first, second, degree, *, base):
    """The weaving of rows of the cycles of two growths with the same pieces, and the cycles of both."""
    if sorted([piece for piece, _ in first]) != sorted([piece for piece, _ in second]):
        raise InvalidGrowth("the growths have not the same pieces")
    lag = max([abs(height - second.height_of(piece)) for piece, height in first], default=0)
    ours, theirs = _holes(first, degree, base), _holes(second, degree, base)
    row, cycles = _row_of_holes(first, degree, ours, base)
    other, others = _row_of_holes(second, degree, theirs, base)
    forth = _map_of_holes(row, other, ours, theirs, lag)
    return (Weaving(forth, _map_of_holes(other, row, theirs, ours, lag)), cycles, others)


def _holes(growth, degree, base):
    """The list of (bar, maker, cycle) of the makers of the degree, in their order.

    A bar may die when it is born. The cycles of the living bars at a time are a base of the cycles up to borders.
    """
    return [
        (bar_of_partners(growth, maker, filler), maker, cycle)
        for maker, filler, cycle in made_cycles(growth, base) if len(maker) == degree + 1
    ]


def _row_of_holes(growth, degree, holes, base):
    """The row in which each cycle stays itself until it dies, and the vectors of the cycles."""
    pieces = growth.pieces(degree)
    vectors = [(bar, tuple([cycle.get(piece, 0) for piece in pieces])) for bar, _, cycle in holes]
    row = row_of_bars(base, growth.last, [bar for bar, _, _ in holes if bar[0] != bar[1]])
    times = range(growth.last + 1)
    return (row, tuple([tuple([vector for bar, vector in vectors if lives(bar, time)]) for time in times]))


def _map_of_holes(row, other, ours, theirs, lag):
    """The map that takes the class of each cycle of the first growth to its class in the second one."""
    factors = [_factors(cycle, theirs, row.base) for _, _, cycle in ours]
    parts = []
    for time in range(max(row.last, other.last) + 1):
        here = _living(ours, time)
        # A cycle that has died is a border: it counts for nothing.
        there = _living(theirs, time + lag)
        parts.append(Matrix(row.base, len(here), [[factors[place][at] for place in here] for at in there]))
    return LagMap(row, other, lag, parts)


def _factors(cycle, holes, base):
    """The list of the factors for which the cycle is the sum of the factors times the cycles of the holes."""
    factors = [0] * len(holes)
    for place in reversed(range(len(holes))):
        # No earlier cycle has an entry at this maker, at which its own cycle has a 1.
        _, maker, other = holes[place]
        factors[place] = cycle.get(maker, 0)
        cycle = less_times(cycle, factors[place], other, base)
    return factors


def _living(holes, time):
    """The list of the places of the holes that are alive at the time."""
    return [place for place, (bar, _, _) in enumerate(holes) if lives(bar, time)]


def _is_cycle_there(vector, amount, borders):
    """True if the vector of numbers is a cycle with entries other than 0 at the first pieces alone."""
    return (
        len(vector) == borders.width
        and all([0 <= entry < borders.base for entry in vector])
        and not any(vector[amount:])
        and not any(borders.apply(vector))
    )


def _is_base_at(growth, degree, row, cycles, time):
    """True if the cycles at the time are independent up to borders, and with borders give all cycles."""
    borders = growth.borders(degree + 1, time, row.base)
    joined = rank(_side_by_side(borders, _columns_at(cycles, time, borders)))
    below = rank(growth.borders(degree, time, row.base))
    return joined == rank(borders) + row.dim(time) and joined == growth.amount(degree, time) - below


def _is_step(growth, degree, row, cycles, time):
    """True if the step from the time takes each cycle to what it is up to borders at the next time."""
    borders = growth.borders(degree + 1, time + 1, row.base)
    taken = _columns_at(cycles, time + 1, borders) * row.step(time)
    changed = _columns_at(cycles, time, borders) - taken
    return rank(_side_by_side(borders, changed)) == rank(borders)


def _columns_at(cycles, time, borders):
    """The matrix whose columns are the cycles at the time, as high as the one of the borders."""
    return Matrix.of_columns(borders.base, borders.height, cycles[time])


def _side_by_side(first, second):
    """The matrix with the columns of the first one and behind them those of the second one."""
    rows = [row + beside for row, beside in zip(first.rows, second.rows)]
    return Matrix(first.base, first.width + second.width, rows)
