"""Frames: bases of the spaces of a row that its steps take to each other, strand by strand."""

from barswoven.bars import fits, lives, order_of_bar, rank_between, sorted_bars, strands_of
from barswoven.matrix import Matrix, has_size
from barswoven.solving import inverse, rank


def frame(row):
    """A frame of the row: a tuple of strands, sorted by their bars."""
    return tuple(sorted(strands_of(row), key=order_of_strand))


def is_frame(row, strands):
    """True if the strands are a frame of the row, otherwise False."""
    found = bars_of_strands(strands)
    return (
        found == sorted_bars(found)
        and all([_is_strand(row, bar, vectors) for bar, vectors in strands])
        and all([_is_base_at(row, strands, time) for time in range(row.last + 1)])
    )


def alike(first, second):
    """A paper that tells that the rows are alike, or between which times their ranks differ."""
    ours, theirs = frame(first), frame(second)
    last = max(first.last, second.last)
    if bars_of_strands(ours) != bars_of_strands(theirs):
        start, end = _unlike_times(bars_of_strands(ours), bars_of_strands(theirs), last)
        return ("unlike", start, end)
    before = [vectors_at(first, ours, time) for time in range(last + 1)]
    behind = [vectors_at(second, theirs, time) for time in range(last + 1)]
    there = tuple([target * inverse(source) for source, target in zip(before, behind)])
    back = tuple([source * inverse(target) for source, target in zip(before, behind)])
    return ("alike", there, back)


def is_alike(first, second, paper):
    """True if the paper holds for the two rows, otherwise False."""
    word, one, other = paper
    if word == "unlike":
        return 0 <= one <= other and rank_between(first, one, other) != rank_between(second, one, other)
    last = max(first.last, second.last)
    return (
        len(one) == last + 1
        and len(other) == last + 1
        and all([_are_inverse(first, second, one[time], other[time], time) for time in range(last + 1)])
        and all([one[time + 1] * first.step(time) == second.step(time) * one[time] for time in range(last)])
    )


def bars_of_strands(strands):
    """The list of the bars of the strands."""
    return [bar for bar, _ in strands]


def vector_at(strand, time):
    """The vector of the strand at the time, None if it is not alive."""
    bar, vectors = strand
    if not lives(bar, time):
        return None
    # Behind the last time the vector of a strand that never dies is its last one.
    return vectors[min(time - bar[0], len(vectors) - 1)]


def vectors_at(row, strands, time):
    """The matrix whose columns are the vectors of the living strands at the time, in their order."""
    living = [vector_at(strand, time) for strand in strands if lives(strand[0], time)]
    return Matrix.of_columns(row.base, row.dim(time), living)


def order_of_strand(strand):
    """What strands are sorted by."""
    return order_of_bar(strand[0])


def _is_strand(row, bar, vectors):
    """True if the steps of the row take the vectors to each other as the bar tells."""
    if not fits(bar, row.last):
        return False
    birth, death = bar
    end = row.last + 1 if death is None else death
    if len(vectors) != end - birth:
        return False
    if not all([_is_vector_at(row, vector, birth + at) for at, vector in enumerate(vectors)]):
        return False
    images = [row.step(birth + at).apply(vector) for at, vector in enumerate(vectors)]
    # A strand that never dies stays as it is behind the last time.
    behind = vectors[-1] if death is None else (0,) * row.dim(end)
    return images == list(vectors[1:]) + [behind]


def _is_vector_at(row, vector, time):
    return len(vector) == row.dim(time) and all([0 <= entry < row.base for entry in vector])


def _is_base_at(row, strands, time):
    """True if the vectors of the living strands are a base of the space at the time."""
    found = vectors_at(row, strands, time)
    return found.width == found.height and rank(found) == found.width


def _are_inverse(first, second, there, back, time):
    """True if the matrices lead between the two spaces at the time and are inverse to each other."""
    base, width, height = first.base, first.dim(time), second.dim(time)
    return (
        has_size(there, base, height, width)
        and has_size(back, base, width, height)
        and there * back == Matrix.identity(base, height)
        and back * there == Matrix.identity(base, width)
    )


def _unlike_times(ours, theirs, last):
    """Two times between which the ranks differ, for different bars."""
    unlike = [bar for bar in ours + theirs if ours.count(bar) != theirs.count(bar)]
    # How many bars are equal to one is told by the ranks between these times, so that one of the ranks differs.
    birth, death = unlike[0]
    ends = [last] if death is None else [death - 1, death]
    for start in (birth, birth - 1):
        for end in ends:
            if _rank_of_bars(ours, start, end) != _rank_of_bars(theirs, start, end):
                return (start, end)


def _rank_of_bars(found, start, end):
    """How many bars are born until start and alive at end."""
    return len([bar for bar in found if bar[0] <= start and lives(bar, end)])
