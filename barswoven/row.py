"""Rows: a space for each time, and a step from each time to the next one."""

from barswoven.errors import InvalidRow, InvalidTime
from barswoven.field import is_base
from barswoven.matrix import Matrix, block, has_size


class Row:
    """A base, the dimensions at the times from 0 to the last one, and the steps between them."""

    def __init__(self, base, dims, steps):
        kept_dims = tuple(dims)
        kept_steps = tuple(steps)
        if not is_base(base):
            raise InvalidRow("the base is not a prime from 2 to 97")
        if len(kept_dims) == 0 or min(kept_dims) < 0:
            raise InvalidRow("there are no dimensions, or one is negative")
        if len(kept_steps) != len(kept_dims) - 1:
            raise InvalidRow("there is not one step less than dimensions")
        for time, step in enumerate(kept_steps):
            if not has_size(step, base, kept_dims[time + 1], kept_dims[time]):
                raise InvalidRow("a step has another base, height or width than it should")
        self.base = base
        self.dims = kept_dims
        self.steps = kept_steps

    @property
    def last(self):
        """The last time."""
        return len(self.steps)

    def dim(self, time):
        """The dimension of the space at any time."""
        if time < 0:
            return 0
        return self.dims[min(time, self.last)]

    def step(self, time):
        """The step from any time to the next one."""
        if time < 0:
            return Matrix.zero(self.base, self.dim(time + 1), 0)
        if time >= self.last:
            return Matrix.identity(self.base, self.dim(time))
        return self.steps[time]

    def carry(self, start, end):
        """The product of the steps from start to end."""
        if end < start:
            raise InvalidTime("the end of a carry is ahead of its start")
        if start < 0:
            return Matrix.zero(self.base, self.dim(end), 0)
        total = Matrix.identity(self.base, self.dim(start))
        for time in range(start, min(end, self.last)):
            total = self.steps[time] * total
        return total

    def prolonged(self, last):
        """The same spaces and steps, with this last time."""
        if last < self.last:
            raise InvalidTime("the last time is earlier than that of the row")
        return self._moved(0, last)

    def later(self, lag):
        """The row that is at each time what this one is earlier by the lag."""
        return self._moved(-lag, self.last + lag)

    def earlier(self, lag):
        """The row that is at each time from 0 on what this one is later by the lag."""
        return self._moved(lag, max(self.last - lag, 0))

    def plus(self, other):
        """The spaces of the two rows side by side."""
        if self.base != other.base:
            raise InvalidRow("the bases differ")
        last = max(self.last, other.last)
        dims = [self.dim(time) + other.dim(time) for time in range(last + 1)]
        steps = [block(self.step(time), other.step(time)) for time in range(last)]
        return Row(self.base, dims, steps)

    def __eq__(self, other):
        return (
            isinstance(other, Row)
            and self.base == other.base
            and self.dims == other.dims
            and self.steps == other.steps
        )

    def _moved(self, ahead, last):
        """The row with this last time that has at each time what this one has ahead of it."""
        dims = [self.dim(time + ahead) for time in range(last + 1)]
        steps = [self.step(time + ahead) for time in range(last)]
        return Row(self.base, dims, steps)


def carries(row, lag):
    """The list of the carries of the row from t to t + lag, for t from 0 to its last time."""
    times = range(row.last + 1)
    if lag == 0:
        return [Matrix.identity(row.base, row.dim(time)) for time in times]
    # By halves there are few products, also for a great lag.
    half = lag // 2
    short = carries(row, half)
    found = [short[min(time + half, row.last)] * short[time] for time in times]
    if lag % 2 == 1:
        found = [row.step(time + lag - 1) * found[time] for time in times]
    return found
