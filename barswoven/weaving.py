"""Weavings: maps there and back that together are carries."""

from barswoven.bars import bars
from barswoven.errors import InvalidWeaving
from barswoven.frames import bars_of_strands, is_frame, vector_at, vectors_at
from barswoven.lagmap import LagMap, image
from barswoven.matrix import Matrix
from barswoven.pairing import by_births, by_deaths, is_pairing
from barswoven.row import carries
from barswoven.solving import inverse


class Weaving:
    """A map from a first row to a second one and a map back, with the same lag."""

    def __init__(self, forth, back):
        if forth.lag != back.lag:
            raise InvalidWeaving("the lags differ")
        if forth.first != back.second or forth.second != back.first:
            raise InvalidWeaving("the maps do not lead between the same two rows")
        if not _is_carry(forth, back) or not _is_carry(back, forth):
            raise InvalidWeaving("the maps, one behind the other, are not the carry")
        self.forth = forth
        self.back = back
        self.first = forth.first
        self.second = forth.second
        self.lag = forth.lag

    @staticmethod
    def still(row):
        """The weaving of the row with itself that moves nothing."""
        unmoved = LagMap.carrying(row, 0)
        return Weaving(unmoved, unmoved)

    def turned(self):
        """The weaving of the second row with the first one."""
        return Weaving(self.back, self.forth)

    def then(self, other):
        """This weaving, and the other one behind it."""
        if self.second != other.first:
            raise InvalidWeaving("the second row of the first weaving is not the first row of the other one")
        return Weaving(self.forth.then(other.forth), other.back.then(self.back))

    def slowed(self, lag):
        """The weaving with this lag whose maps are followed by carries."""
        if lag < self.lag:
            raise InvalidWeaving("the lag is less than that of the weaving")
        more = lag - self.lag
        forth = self.forth.then(LagMap.carrying(self.second, more))
        return Weaving(forth, self.back.then(LagMap.carrying(self.first, more)))

    def beside(self, other):
        """The weaving of the sums of the rows, whose maps stand side by side."""
        if self.lag != other.lag:
            raise InvalidWeaving("the lags differ")
        return Weaving(self.forth.beside(other.forth), self.back.beside(other.back))

    def __eq__(self, other):
        return isinstance(other, Weaving) and self.forth == other.forth and self.back == other.back


def weave(first, second, ours, theirs, pairs, *, lag):
    """The weaving that takes the strands of two frames to each other that are paired."""
    if first.base != second.base:
        raise InvalidWeaving("the bases differ")
    if not is_frame(first, ours) or not is_frame(second, theirs):
        raise InvalidWeaving("the strands are not a frame of the row")
    if not is_pairing(bars_of_strands(ours), bars_of_strands(theirs), pairs, lag=lag):
        raise InvalidWeaving("the pairs are not a pairing within the lag")
    mates = {one: other for one, other in pairs}
    others = {other: one for one, other in pairs}
    forth = _map_of_strands(first, second, ours, theirs, mates, lag)
    return Weaving(forth, _map_of_strands(second, first, theirs, ours, others, lag))


def pairs_of(weaving):
    """A pairing of the bars of the two rows within the lag of the weaving."""
    onto, into = image(weaving.forth)
    between = bars(onto.second)
    behind = {one: other for one, other in by_deaths(between, bars(weaving.second), lag=weaving.lag)}
    return tuple([(one, behind[middle]) for one, middle in by_births(bars(weaving.first), between)])


def _is_carry(one, other):
    """True if the map with the other one behind it is the carry of its first row, otherwise False."""
    found = carries(one.first, 2 * one.lag)
    return all([other.part(time + one.lag) * one.part(time) == carry for time, carry in enumerate(found)])


def _map_of_strands(first, second, ours, theirs, mates, lag):
    """The map that takes each strand that has a mate to its mate, and the others to zero."""
    parts = []
    for time in range(max(first.last, second.last) + 1):
        height = second.dim(time + lag)
        targets = [
            _target(place, theirs, mates, time + lag, height)
            for place, strand in enumerate(ours) if vector_at(strand, time) is not None
        ]
        taken = Matrix.of_columns(first.base, height, targets)
        parts.append(taken * inverse(vectors_at(first, ours, time)))
    return LagMap(first, second, lag, parts)


def _target(place, theirs, mates, time, height):
    """The vector of the mate of the strand at the place, zero if there is none at the time."""
    found = vector_at(theirs[mates[place]], time) if place in mates else None
    return (0,) * height if found is None else found
