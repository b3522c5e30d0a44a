"""A book of rows, and of what has been shown about them."""

from barswoven.bars import bars
from barswoven.errors import DuplicateName, InvalidName, NoChain, UnknownName
from barswoven.lagmap import LagMap
from barswoven.pairing import is_apart, is_lonely
from barswoven.weaving import Weaving

LETTERS = "abcdefghijklmnopqrstuvwxyz"
LONGEST_NAME = 12


class Book:
    """Rows under names, and claims about them, each of which has been judged."""

    def __init__(self):
        self._rows = {}
        self._bars = {}
        self._claims = []

    def add(self, name, row):
        """Keep the row under the name."""
        if not _is_name(name):
            raise InvalidName(name)
        if name in self._rows:
            raise DuplicateName(name)
        self._rows[name] = row

    def names(self):
        """The list of the names in the order in which they were added."""
        return list(self._rows)

    def row(self, name):
        """The row with this name."""
        if name not in self._rows:
            raise UnknownName(name)
        return self._rows[name]

    def offer_weaving(self, first, second, weaving):
        """True if the weaving is one of the two rows and is kept as a claim, otherwise False."""
        ours, theirs = self.row(first), self.row(second)
        if weaving.first != ours or weaving.second != theirs:
            return False
        self._claims.append(("woven", first, second, weaving))
        return True

    def offer_lonely(self, first, second, lag, side, places):
        """True if the places are a lonely lot for the lag and are kept as a claim, otherwise False."""
        # The bases come first, as they look up the names.
        if not self._same_base(first, second) or lag < 0:
            return False
        if not is_lonely(self._bars_of(first), self._bars_of(second), side, places, lag=lag):
            return False
        self._claims.append(("lonely", first, second, lag, side, tuple(places)))
        return True

    def offer_apart(self, first, second, side, places):
        """True if the places show that there is no weaving and are kept as a claim, otherwise False."""
        if not self._same_base(first, second):
            return False
        if not is_apart(self._bars_of(first), self._bars_of(second), side, places):
            return False
        self._claims.append(("apart", first, second, side, tuple(places)))
        return True

    def claims(self):
        """The list of the accepted claims in order."""
        return list(self._claims)

    def high(self, first, second):
        """The least sum of a chain from the first name to the second one, None if there is no chain."""
        sums = self._sums(first)
        self.row(second)
        return sums.get(second)

    def low(self, first, second):
        """The greatest number below which the accepted lonely lots show that there is no weaving."""
        ours, theirs = self._sums(first), self._sums(second)
        found = [0]
        for claim in self._claims:
            if claim[0] == "lonely":
                _, one, other, lag, _, _ = claim
                found = found + [lag + 1 - way for way in _ways(ours, theirs, one, other)]
        return max(found)

    def weaving(self, first, second):
        """A weaving of the two rows along a chain with the least sum."""
        row = self.row(first)
        self.row(second)
        sums, came = _least_chains(first, self._links())
        if second not in sums:
            raise NoChain("no chain leads from the one name to the other")
        forth = back = LagMap.carrying(row, 0)
        for there, again in _maps_along(came, second):
            forth, back = forth.then(there), again.then(back)
        return Weaving(forth, back)

    def are_apart(self, first, second):
        """True if chains lead from the two names to two that are shown to be apart, otherwise False."""
        ours, theirs = self._sums(first), self._sums(second)
        told = [claim for claim in self._claims if claim[0] == "apart"]
        return any([len(_ways(ours, theirs, claim[1], claim[2])) > 0 for claim in told])

    def _same_base(self, first, second):
        ours, theirs = self.row(first), self.row(second)
        return ours.base == theirs.base

    def _bars_of(self, name):
        """The bars of the row with this name, which are worked out once."""
        if name not in self._bars:
            self._bars[name] = bars(self.row(name))
        return self._bars[name]

    def _links(self):
        """The list of (name, other name, lag, map there, map back) of the accepted weavings, in both directions."""
        links = []
        for claim in self._claims:
            if claim[0] == "woven":
                _, first, second, weaving = claim
                links.append((first, second, weaving.lag, weaving.forth, weaving.back))
                links.append((second, first, weaving.lag, weaving.back, weaving.forth))
        return links

    def _sums(self, start):
        """The least sums of the chains from the name, by the names to which they lead."""
        self.row(start)
        sums, _ = _least_chains(start, self._links())
        return sums


def _is_name(name):
    return 1 <= len(name) <= LONGEST_NAME and all([sign in LETTERS for sign in name])


def _least_chains(start, links):
    """The least sum for each name to which a chain leads, and the last link of such a chain."""
    sums, came, done = {start: 0}, {}, {}
    while len(done) < len(sums):
        # No chain through another name that is left has a lesser sum than the least one of them.
        least, name = min([(sums[one], one) for one in sums if one not in done])
        done[name] = True
        for one, other, lag, there, back in links:
            if one == name and (other not in sums or least + lag < sums[other]):
                sums[other] = least + lag
                came[other] = (one, there, back)
    return sums, came


def _maps_along(came, end):
    """The list of the pairs of maps, there and back, of the links of the chain that leads to the end."""
    found = []
    while end in came:
        end, there, back = came[end]
        found = [(there, back)] + found
    return found


def _ways(ours, theirs, one, other):
    """The sums of the ways from our name to the one and from theirs to the other, or the other way round."""
    return [
        ours[near] + theirs[far]
        for near, far in ((one, other), (other, one)) if near in ours and far in theirs
    ]
