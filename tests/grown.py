"""Drawn growths, told ones, and slow ways to judge what is made of them."""

import random
from itertools import combinations

from drawn import rank_of_vectors


def faces_by_hand(piece):
    """The pairs (sign, face), after point [30]."""
    if len(piece) < 2:
        return []
    return [((-1) ** place, tuple(p for k, p in enumerate(piece) if k != place)) for place in range(len(piece))]


def any_entries(chance, points, most, last):
    """Drawn pieces of some of the points, with drawn heights, in drawn order."""
    heights = {}
    drawn = sorted(chance.sample(range(60), points))
    for size in range(1, 5):
        told = list(combinations(drawn, size))
        chance.shuffle(told)
        # All pieces of a size are not rare, as the greater ones need all their faces.
        for piece in told[:len(told) if size == 1 or chance.randrange(3) else chance.randrange(len(told) + 1)]:
            below = [face for _, face in faces_by_hand(piece)]
            if len(heights) < most and all(face in heights for face in below):
                least = max([heights[face] for face in below], default=0)
                heights[piece] = min(last, least + chance.choice((0, 0, 1, 2, chance.randrange(last + 1))))
    entries = list(heights.items())
    chance.shuffle(entries)
    return entries


def drawn_entries(chance, times, points=7, most=45, last=6):
    for _ in range(times):
        yield any_entries(chance, chance.randrange(points + 1), most, chance.randrange(last + 1))


def moved_heights(chance, entries, most):
    """The same pieces with heights that differ by some numbers up to the most one."""
    heights = {}
    for piece, height in sorted(entries, key=lambda entry: len(entry[0])):
        least = max([heights[face] for _, face in faces_by_hand(piece)], default=0)
        heights[piece] = max(least, height + chance.randint(-most, most))
    moved = list(heights.items())
    chance.shuffle(moved)
    return moved


def with_faces(pieces):
    """The pieces with all their faces, each once, those with few points first."""
    found = {face for piece in pieces for size in range(1, 5) for face in combinations(piece, size)}
    return sorted(found, key=lambda piece: (len(piece), piece))


def turned_band():
    """A band that is turned once, whose side goes twice around it, and whose side is there first."""
    pieces = with_faces([(0, 1, 2), (1, 2, 3), (2, 3, 4), (0, 3, 4), (0, 1, 4)])
    side = [(0, 2), (1, 3), (2, 4), (0, 3), (1, 4)]
    return [(piece, len(piece) + int(len(piece) > 1 and piece not in side) - 1) for piece in pieces]


def plane():
    """A plane without sides, of six points and ten triangles."""
    pieces = with_faces([
        (0, 1, 2), (0, 2, 3), (0, 3, 4), (0, 4, 5), (0, 1, 5), (1, 2, 4), (2, 3, 5), (1, 3, 4), (2, 4, 5), (1, 3, 5),
    ])
    return [(piece, len(piece) - 1) for piece in pieces]


def all_entries(seed, times):
    """Drawn growths, and the band and the plane with told and with drawn heights."""
    chance = random.Random(seed)
    yield []
    yield [((7,), 3)]
    for told in (turned_band(), plane()):
        yield told
        for _ in range(2):
            yield moved_heights(chance, told, 3)
    yield from drawn_entries(chance, times)


def in_order(entries):
    """The entries after the rule of point [30]."""
    return sorted(entries, key=lambda entry: (entry[1], len(entry[0]), entry[0]))


def of_degree(entries, degree):
    """The pieces of the degree with their heights, in their order."""
    return [(piece, height) for piece, height in in_order(entries) if len(piece) == degree + 1]


def border_of(entries, piece, base):
    """The border of the piece, a residue for each piece of the degree below."""
    signs = {face: sign for sign, face in faces_by_hand(piece)}
    return [signs.get(below, 0) % base for below, _ in of_degree(entries, len(piece) - 2)]


def borders_at(entries, degree, time, base):
    """The borders of the pieces one degree above that are there at the time, as a list of vectors."""
    return [border_of(entries, piece, base) for piece, height in of_degree(entries, degree + 1) if height <= time]


def amount_at(entries, degree, time):
    return sum(height <= time for _, height in of_degree(entries, degree))


def cycle_dimension(entries, degree, time, base):
    """The dimension of the cycles of the degree that are there at the time."""
    there = amount_at(entries, degree, time)
    return there - (rank_of_vectors(borders_at(entries, degree - 1, time, base), base) if degree > 0 else 0)


def rank_of_holes(entries, degree, start, end, base):
    """The rank of the map that takes the cycles at the start, up to borders, to those at the end."""
    borders = borders_at(entries, degree, end, base)
    there = amount_at(entries, degree, start)
    # Those borders at the end that are there at the start are the ones with zeros alone behind these pieces.
    early = rank_of_vectors(borders, base) - rank_of_vectors([border[there:] for border in borders], base)
    return cycle_dimension(entries, degree, start, base) - early


def plus_times(vector, factor, other, base):
    return [(one + factor * two) % base for one, two in zip(vector, other)]


def is_border(entries, degree, vector, time, base):
    borders = borders_at(entries, degree, time, base)
    return rank_of_vectors(borders + [list(vector)], base) == rank_of_vectors(borders, base)


def is_cycle(entries, degree, vector, time, base):
    """True if the vector is a cycle that is there at the time, after point [31]."""
    pieces = of_degree(entries, degree)
    if len(vector) != len(pieces) or any(entry not in range(base) for entry in vector):
        return False
    if any(entry and height > time for entry, (_, height) in zip(vector, pieces)):
        return False
    if degree == 0:
        return True
    total = [0] * len(of_degree(entries, degree - 1))
    for entry, (piece, _) in zip(vector, pieces):
        total = plus_times(total, entry, border_of(entries, piece, base), base)
    return not any(total)


def judge_hole_row(entries, degree, row, cycles):
    """The rules of a row of the cycles, after point [32]."""
    last = max((height for _, height in entries), default=0)
    base = row.base
    if row.last != last or len(cycles) != last + 1:
        return False
    for time in range(last + 1):
        borders = borders_at(entries, degree, time, base)
        if len(cycles[time]) != row.dims[time]:
            return False
        if not all(is_cycle(entries, degree, vector, time, base) for vector in cycles[time]):
            return False
        below = rank_of_vectors(borders, base)
        if rank_of_vectors(borders + [list(vector) for vector in cycles[time]], base) != below + row.dims[time]:
            return False
        if row.dims[time] != cycle_dimension(entries, degree, time, base) - below:
            return False
    for time, step in enumerate(row.steps):
        for place, vector in enumerate(cycles[time]):
            left = list(vector)
            for at, other in enumerate(cycles[time + 1]):
                left = plus_times(left, -step.rows[at][place], other, base)
            if not is_border(entries, degree, left, time + 1, base):
                return False
    return True
