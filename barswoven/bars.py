"""Bars: what is born in a row at which time, and dies at which one."""

from barswoven.errors import InvalidRow
from barswoven.matrix import Matrix
from barswoven.row import Row
from barswoven.solving import free_places, rank, reduced


def lives(bar, time):
    """True if the bar is alive at the time, otherwise False."""
    birth, death = bar
    return birth <= time and (death is None or time < death)


def sorted_bars(bars):
    """The list of the bars by birth, then by death, None last."""
    return sorted(bars, key=order_of_bar)


def order_of_bar(bar):
    """What bars are sorted by."""
    birth, death = bar
    if death is None:
        return (birth, 1, 0)
    return (birth, 0, death)


def fits(bar, last):
    """True if a row with this last time may have the bar, otherwise False."""
    birth, death = bar
    return 0 <= birth <= last and (death is None or birth < death <= last)


def rank_between(row, start, end):
    """The rank of the carry from start to end, 0 if start is negative."""
    return rank(row.carry(start, end))


def bars(row):
    """The sorted list of the bars of the row."""
    return sorted_bars([bar for bar, _ in strands_of(row)])


def row_of_bars(base, last, bars):
    """The row with one coordinate for each living bar, in the order of the list."""
    if not all([fits(bar, last) for bar in bars]):
        raise InvalidRow("a bar does not fit into the row")
    living = [[place for place, bar in enumerate(bars) if lives(bar, time)] for time in range(last + 1)]
    steps = [_same_places(base, living[time], living[time + 1]) for time in range(last)]
    return Row(base, [len(places) for places in living], steps)


def strands_of(row):
    """The list of the strands of a frame of the row, in any order."""
    # Living strands are a birth and the list of the vectors so far; the elder ones stand first.
    living, ended = [], []
    for time in range(row.last + 1):
        images = row.step(time - 1) * _newest(row, living, time - 1)
        units = Matrix.identity(row.base, images.height).rows
        joined = [image + unit for image, unit in zip(images.rows, units)]
        # The leading places are those of the images that depend on no elder one, and behind them those of the
        # unit vectors that make the images a base of the space.
        rows, places = reduced(joined, images.width + images.height, row.base)
        lasting = [place for place in places if place < images.width]
        ended = ended + _dying(living, lasting, rows, time, row.base)
        born = [(time, [units[place - images.width]]) for place in places if place >= images.width]
        living = [_prolonged_strand(living[place], images.column(place)) for place in lasting] + born
    return ended + [((birth, None), tuple(vectors)) for birth, vectors in living]


def _same_places(base, before, behind):
    """The matrix that takes the coordinate of each place before to that of the same place behind."""
    return Matrix(base, len(before), [[int(place == other) for other in before] for place in behind])


def _newest(row, living, time):
    """The matrix whose columns are the vectors of the living strands at the time."""
    return Matrix.of_columns(row.base, row.dim(time), [vectors[-1] for _, vectors in living])


def _prolonged_strand(strand, vector):
    birth, vectors = strand
    return (birth, vectors + [vector])


def _dying(living, lasting, rows, time, base):
    """The strands that die at the time, whose images depend on those of elder ones that last."""
    elder = [living[place] for place in lasting]
    dying = free_places(lasting, len(living))
    return [_ended_strand(living[place], elder, [row[place] for row in rows], time, base) for place in dying]


def _ended_strand(strand, elder, factors, time, base):
    """The strand less the elder ones times their factors, which is what its step takes to zero."""
    birth, vectors = strand
    # The factors of all strands that are not elder are 0.
    used = [(factor, one) for factor, one in zip(factors, elder) if factor != 0]
    changed = [
        _less(vector, [(factor, past[birth + at - since]) for factor, (since, past) in used], base)
        for at, vector in enumerate(vectors)
    ]
    return ((birth, time), tuple(changed))


def _less(vector, multiples, base):
    """The vector less each of the other vectors times its factor."""
    for factor, other in multiples:
        vector = [entry - factor * beside for entry, beside in zip(vector, other)]
    return tuple([entry % base for entry in vector])
