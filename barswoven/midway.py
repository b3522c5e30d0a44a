"""A row between two rows, and the weavings that lead to it and on from it."""

from barswoven.bars import order_of_bar, row_of_bars
from barswoven.errors import InvalidRow, InvalidWeaving
from barswoven.frames import bars_of_strands, frame
from barswoven.pairing import is_long, least_pairing
from barswoven.weaving import weave


def midway(first, second, *, lag):
    """A weaving of the first row with a row between, with the lag, and one of this row with the second one."""
    if first.base != second.base:
        raise InvalidRow("the bases differ")
    ours, theirs = frame(first), frame(second)
    found = least_pairing(bars_of_strands(ours), bars_of_strands(theirs))
    if found[0] == "apart":
        raise InvalidWeaving("the rows have no weaving")
    _, least, pairs, _ = found
    if lag < 0 or lag > least:
        raise InvalidWeaving("the lag is negative, or greater than the least one")
    rest = least - lag
    middle = _middle_bars(bars_of_strands(ours), bars_of_strands(theirs), pairs, lag, rest)
    between = row_of_bars(first.base, max(first.last, second.last), [bar for bar, _, _ in middle])
    # The strands of a frame stand in the order of their bars, as the middle bars do.
    strands = frame(between)
    before = sorted([(mate, place) for place, (_, mate, _) in enumerate(middle) if mate is not None])
    behind = [(place, mate) for place, (_, _, mate) in enumerate(middle) if mate is not None]
    return (
        weave(first, between, ours, strands, before, lag=lag),
        weave(between, second, strands, theirs, behind, lag=rest),
    )


def _middle_bars(ours, theirs, pairs, lag, rest):
    """The sorted list of (bar, our index, their index) of the row between, with None where there is no mate."""
    mates = {one: other for one, other in pairs}
    others = {other: one for one, other in pairs}
    middle = [(_bar_between(ours[one], theirs[other], lag), one, other) for one, other in pairs]
    middle = middle + [
        (_shortened(bar, lag), place, None)
        for place, bar in enumerate(ours) if place not in mates and is_long(bar, lag=lag)
    ]
    middle = middle + [
        (_shortened(bar, rest), None, place)
        for place, bar in enumerate(theirs) if place not in others and is_long(bar, lag=rest)
    ]
    return sorted(middle, key=_order_of_middle)


def _order_of_middle(entry):
    return order_of_bar(entry[0])


def _bar_between(bar, other, lag):
    """The bar whose times are those of the bar, moved by at most the lag towards those of the other one."""
    (birth, death), (other_birth, other_death) = bar, other
    return (_moved(birth, other_birth, lag), None if death is None else _moved(death, other_death, lag))


def _moved(time, other, lag):
    """The time moved by at most the lag towards the other one."""
    return min(max(other, time - lag), time + lag)


def _shortened(bar, lag):
    """The bar that is born later and dies earlier by the lag."""
    birth, death = bar
    return (birth + lag, death - lag)
