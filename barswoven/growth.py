"""Growing complexes of points, lines, triangles and tetrahedra."""

from barswoven.errors import InvalidGrowth
from barswoven.matrix import Matrix

MOST_POINTS = 4
GREATEST_POINT = 59


class Growth:
    """Entries of a piece and the height from which it is there, with all faces of each piece."""

    def __init__(self, entries):
        kept = tuple(sorted(entries, key=_order_of_entry))
        heights = {piece: height for piece, height in kept}
        if len(heights) != len(kept):
            raise InvalidGrowth("a piece occurs twice")
        for piece, height in kept:
            if not _is_piece(piece):
                raise InvalidGrowth("something is no piece")
            if height < 0:
                raise InvalidGrowth("a height is negative")
            if not all([face in heights and heights[face] <= height for _, face in faces(piece)]):
                raise InvalidGrowth("a face is left out, or later than its piece")
        self.entries = kept

    @property
    def last(self):
        """The greatest height, 0 if there are no pieces."""
        return max([height for _, height in self.entries], default=0)

    def height_of(self, piece):
        """The height of the piece."""
        for known, height in self.entries:
            if known == piece:
                return height
        raise InvalidGrowth("there is no such piece")

    def pieces(self, degree):
        """The list of the pieces of the degree, in their order."""
        return [piece for piece, _ in self.entries if len(piece) == degree + 1]

    def amount(self, degree, time):
        """How many pieces of the degree have a height of at most the time."""
        return len([piece for piece, height in self.entries if len(piece) == degree + 1 and height <= time])

    def borders(self, degree, time, base):
        """The matrix whose columns are the borders of the pieces of the degree that are there at the time."""
        # No piece has the degree -1, so that the borders of points have no entries.
        places = {piece: place for place, piece in enumerate(self.pieces(degree - 1))}
        # The pieces of a degree stand in the order of their heights.
        there = self.pieces(degree)[:self.amount(degree, time)]
        return Matrix.of_columns(base, len(places), [_border(piece, places, base) for piece in there])

    def __len__(self):
        return len(self.entries)

    def __iter__(self):
        return iter(self.entries)

    def __contains__(self, piece):
        # Each known piece is compared, as what is no piece may be no key of a dict.
        return any([known == piece for known, _ in self.entries])

    def __eq__(self, other):
        return isinstance(other, Growth) and self.entries == other.entries


def faces(piece):
    """The list of the pairs (sign, face), where face k is the piece without its point k."""
    if len(piece) == 1:
        return []
    return [(1 if place % 2 == 0 else -1, piece[:place] + piece[place + 1:]) for place in range(len(piece))]


def _order_of_entry(entry):
    piece, height = entry
    return (height, len(piece), piece)


def _is_piece(piece):
    """True if the tuple of numbers is a piece, otherwise False."""
    return (
        1 <= len(piece) <= MOST_POINTS
        and all([0 <= point <= GREATEST_POINT for point in piece])
        and all([point < later for point, later in zip(piece, piece[1:])])
    )


def _border(piece, places, base):
    """The border of the piece: an entry for each of the places of the pieces below."""
    border = [0] * len(places)
    for sign, face in faces(piece):
        border[places[face]] = sign % base
    return border
