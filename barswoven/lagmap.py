"""Maps with a lag from one row to another one."""

from barswoven.errors import InvalidMap
from barswoven.matrix import Matrix, block, has_size
from barswoven.row import Row, carries
from barswoven.solving import free_places, kernel, rank, reduced


class LagMap:
    """A part for each time, from the space of the first row to that of the second row later by the lag."""

    def __init__(self, first, second, lag, parts):
        kept = tuple(parts)
        if first.base != second.base:
            raise InvalidMap("the bases differ")
        if lag < 0:
            raise InvalidMap("the lag is negative")
        if len(kept) != _last_of(first, second) + 1:
            raise InvalidMap("there is not one part for each time")
        for time, part in enumerate(kept):
            if not has_size(part, first.base, second.dim(time + lag), first.dim(time)):
                raise InvalidMap("a part has another base, height or width than it should")
        for time in range(len(kept) - 1):
            if kept[time + 1] * first.step(time) != second.step(time + lag) * kept[time]:
                raise InvalidMap("a square does not agree")
        self.first = first
        self.second = second
        self.lag = lag
        self.parts = kept

    @staticmethod
    def carrying(row, lag):
        """The map whose parts are the carries of the row over the lag."""
        if lag < 0:
            raise InvalidMap("the lag is negative")
        return LagMap(row, row, lag, carries(row, lag))

    def part(self, time):
        """The part at a time from 0 on."""
        return self.parts[min(time, len(self.parts) - 1)]

    def is_into(self):
        """True if no part takes two different vectors to one, otherwise False."""
        return all([rank(part) == part.width for part in self.parts])

    def is_onto(self):
        """True if each vector of the second row's spaces is met, otherwise False."""
        return all([rank(part) == part.height for part in self.parts])

    def then(self, other):
        """This map, and the other one behind it."""
        if self.second != other.first:
            raise InvalidMap("the second row of the first map is not the first row of the other one")
        times = range(_last_of(self.first, other.second) + 1)
        parts = [other.part(time + self.lag) * self.part(time) for time in times]
        return LagMap(self.first, other.second, self.lag + other.lag, parts)

    def beside(self, other):
        """The map of the sums of the rows, part by part side by side."""
        if self.lag != other.lag:
            raise InvalidMap("the lags differ")
        first, second = self.first.plus(other.first), self.second.plus(other.second)
        times = range(_last_of(first, second) + 1)
        return LagMap(first, second, self.lag, [block(self.part(time), other.part(time)) for time in times])

    def __add__(self, other):
        if self.first != other.first or self.second != other.second or self.lag != other.lag:
            raise InvalidMap("the rows or the lags differ")
        parts = [one + two for one, two in zip(self.parts, other.parts)]
        return LagMap(self.first, self.second, self.lag, parts)

    def __eq__(self, other):
        return (
            isinstance(other, LagMap)
            and self.first == other.first
            and self.second == other.second
            and self.lag == other.lag
            and self.parts == other.parts
        )


def image(lagmap):
    """A map that is onto and a map that is into behind it, which together are the given one."""
    first, second, base = lagmap.first, lagmap.second, lagmap.first.base
    onto, into, places = [], [], []
    for part in lagmap.parts:
        rows, leading = reduced(part.rows, part.width, base)
        # A matrix is its columns at the leading places times its reduced rows with a leading one.
        onto.append(Matrix(base, part.width, rows[:len(leading)]))
        into.append(Matrix.of_columns(base, part.height, [part.column(place) for place in leading]))
        places.append(leading)
    steps = []
    for time in range(len(onto) - 1):
        # The unit vector at the k-th leading place is taken to the k-th vector of the space between.
        moved = onto[time + 1] * first.step(time)
        steps.append(Matrix.of_columns(base, moved.height, [moved.column(place) for place in places[time]]))
    between = Row(base, [part.height for part in onto], steps)
    return (LagMap(first, between, 0, onto), LagMap(between, second, lagmap.lag, into))


def lost(lagmap):
    """The map into the first row that meets what the given map takes to zero."""
    first, base = lagmap.first, lagmap.first.base
    into = [Matrix.of_columns(base, part.width, kernel(part)) for part in lagmap.parts]
    steps = []
    for time in range(len(into) - 1):
        moved = first.step(time) * into[time]
        # The k-th vector of the kernel alone has an entry, a 1, at the k-th free place.
        free = _free_places_of(lagmap.parts[time + 1])
        steps.append(Matrix(base, moved.width, [moved.rows[place] for place in free]))
    return LagMap(Row(base, [part.width for part in into], steps), first, 0, into)


def _last_of(first, second):
    """The greater one of the two last times."""
    return max(first.last, second.last)


def _free_places_of(matrix):
    _, places = reduced(matrix.rows, matrix.width, matrix.base)
    return free_places(places, matrix.width)
