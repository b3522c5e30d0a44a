"""The least lag of two rows, with a weaving, and the papers that tell of it."""

from barswoven.bars import bars
from barswoven.errors import InvalidRow
from barswoven.frames import bars_of_strands, frame
from barswoven.pairing import is_apart, is_lonely, is_pairing, least_pairing
from barswoven.weaving import weave


def compare(first, second):
    """A weaving of the two rows with the least lag, or what shows that there is none."""
    if first.base != second.base:
        raise InvalidRow("the bases differ")
    ours, theirs = frame(first), frame(second)
    found = least_pairing(bars_of_strands(ours), bars_of_strands(theirs))
    if found[0] == "apart":
        return found
    _, lag, pairs, lonely = found
    return ("woven", weave(first, second, ours, theirs, pairs, lag=lag), pairs, lonely)


def accepts(first, second, paper):
    """True if the paper holds for the two rows, otherwise False."""
    if paper[0] == "apart":
        _, side, places = paper
        return is_apart(bars(first), bars(second), side, places)
    _, weaving, pairs, lonely = paper
    if weaving.first != first or weaving.second != second:
        return False
    ours, theirs = bars(first), bars(second)
    return (
        is_pairing(ours, theirs, pairs, lag=weaving.lag)
        and _is_least(ours, theirs, weaving.lag, lonely)
    )


def _is_least(ours, theirs, lag, lonely):
    """True if lonely tells that there is no pairing within less than the lag, otherwise False."""
    if lonely is None or lag == 0:
        return lonely is None and lag == 0
    _, side, places = lonely
    return is_lonely(ours, theirs, side, places, lag=lag - 1)
