"""Matrices of residues: their products, sums, blocks and equality."""

from barswoven.errors import InvalidMatrix
from barswoven.field import dot, is_base


class Matrix:
    """A base, a width, and rows that are vectors of width entries."""

    def __init__(self, base, width, rows):
        if not is_base(base):
            raise InvalidMatrix("the base is not a prime from 2 to 97")
        if width < 0:
            raise InvalidMatrix("a width or a height is negative")
        kept = tuple([tuple(row) for row in rows])
        if not all([_is_vector(row, width, base) for row in kept]):
            raise InvalidMatrix("a row or a column does not consist of as many residues as it should")
        self.base = base
        self.width = width
        self.rows = kept

    @staticmethod
    def identity(base, size):
        """The square matrix with ones from the upper left to the lower right."""
        return Matrix(base, size, [[int(at == place) for place in range(size)] for at in range(size)])

    @staticmethod
    def zero(base, height, width):
        """The matrix of this height and width with all entries 0."""
        if height < 0:
            raise InvalidMatrix("the height is negative")
        row = [0 for _ in range(width)]
        return Matrix(base, width, [row for _ in range(height)])

    @staticmethod
    def of_columns(base, height, columns):
        """The matrix of this height with these columns."""
        return Matrix(base, height, columns).transposed()

    @property
    def height(self):
        """The number of the rows."""
        return len(self.rows)

    @property
    def is_zero(self):
        """True if all entries are 0, also if there are none."""
        return not any([any(row) for row in self.rows])

    def column(self, place):
        """The vector of the entries that the rows have at this place."""
        return tuple([row[place] for row in self.rows])

    def columns(self):
        """The list of the columns."""
        return [self.column(place) for place in range(self.width)]

    def apply(self, vector):
        """The product with a vector of width entries."""
        if len(vector) != self.width:
            raise InvalidMatrix("the vector has not as many entries as the matrix is wide")
        return tuple([dot(row, vector, base=self.base) for row in self.rows])

    def transposed(self):
        """The matrix whose rows are the columns of this one."""
        return Matrix(self.base, self.height, self.columns())

    def scaled(self, factor):
        """The matrix times a number."""
        rows = [[factor * entry % self.base for entry in row] for row in self.rows]
        return Matrix(self.base, self.width, rows)

    def __mul__(self, other):
        _check_bases(self, other)
        if self.width != other.height:
            raise InvalidMatrix("the width of the first matrix is not the height of the second one")
        # A whole row is kept in one number, each entry in bits of its own that also hold a sum of products: the sum
        # of the rows of the other matrix, each times its factor, is then found for all places at once.
        bits = (self.width * self.base * self.base).bit_length()
        numbers = [_packed(row, bits) for row in other.rows]
        sums = [sum([factor * number for factor, number in zip(row, numbers)]) for row in self.rows]
        rows = [_residues_of(total, bits, other.width, self.base) for total in sums]
        return Matrix(self.base, other.width, rows)

    def __add__(self, other):
        return _plus_times(self, 1, other)

    def __sub__(self, other):
        return _plus_times(self, -1, other)

    def __eq__(self, other):
        return (
            isinstance(other, Matrix)
            and self.base == other.base
            and self.width == other.width
            and self.rows == other.rows
        )


def block(first, second):
    """The matrix with first at the upper left, second at the lower right and zeros elsewhere."""
    _check_bases(first, second)
    before = (0,) * first.width
    behind = (0,) * second.width
    upper = [row + behind for row in first.rows]
    lower = [before + row for row in second.rows]
    return Matrix(first.base, first.width + second.width, upper + lower)


def has_size(matrix, base, height, width):
    """True if the matrix has this base, height and width, otherwise False."""
    return matrix.base == base and matrix.height == height and matrix.width == width


def _is_vector(entries, length, base):
    return len(entries) == length and all([0 <= entry < base for entry in entries])


def _check_bases(first, second):
    if first.base != second.base:
        raise InvalidMatrix("the bases differ")


def _packed(row, bits):
    """The number that has the entries of the row in so many bits each, the first entry in the lowest ones."""
    number = 0
    for entry in reversed(row):
        number = (number << bits) + entry
    return number


def _residues_of(number, bits, length, base):
    """The residues of the entries that are kept in the number."""
    size = 1 << bits
    return [(number >> (bits * place)) % size % base for place in range(length)]


def _plus_times(first, factor, second):
    """The sum of the first matrix and of the second one times the factor."""
    _check_bases(first, second)
    if first.height != second.height or first.width != second.width:
        raise InvalidMatrix("the heights or the widths differ")
    rows = [
        [(one + factor * other) % first.base for one, other in zip(row, beside)]
        for row, beside in zip(first.rows, second.rows)
    ]
    return Matrix(first.base, first.width, rows)
