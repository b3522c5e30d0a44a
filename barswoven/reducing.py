"""Which piece of a growth makes a hole, which one fills it, and the bars that come of it."""

from barswoven.bars import sorted_bars
from barswoven.field import inverse_of
from barswoven.growth import faces


def partners(growth, *, base):
    """The list of the pairs (maker, filler), with None for a missing filler, in the order of the makers."""
    return [(maker, filler) for maker, filler, _ in made_cycles(growth, base)]


def hole_bars(growth, degree, *, base):
    """The sorted list of the bars of the holes of the degree."""
    found = [
        bar_of_partners(growth, maker, filler)
        for maker, filler in partners(growth, base=base) if len(maker) == degree + 1
    ]
    return sorted_bars([(birth, death) for birth, death in found if birth != death])


def part_bars(growth):
    """The sorted list of the bars of the parts that lines join."""
    # A part is the index of its eldest point among the points, which stand in the order of their heights.
    births, parts, found = [], {}, []
    for piece, height in growth:
        if len(piece) == 1:
            parts[piece[0]] = len(births)
            births.append(height)
        if len(piece) == 2:
            elder, younger = sorted([parts[point] for point in piece])
            if elder != younger:
                found.append((births[younger], height))
                parts = {point: elder if part == younger else part for point, part in parts.items()}
    lasting = [(births[part], None) for part in sorted(set(list(parts.values())))]
    return sorted_bars([(birth, death) for birth, death in found if birth != death] + lasting)


def bar_of_partners(growth, maker, filler):
    """The heights of the maker and of its filler, None for a missing one."""
    return (growth.height_of(maker), None if filler is None else growth.height_of(filler))


def made_cycles(growth, base):
    """The list of (maker, filler, cycle), in the order of the makers, with None for a missing filler.

    A cycle is a dict of the entries that are not 0, by their pieces. Its last piece, by the order of the growth, is
    the maker, with a 1; and it is the border of a chain whose last piece is the filler, if there is one.
    """
    pieces = [piece for piece, _ in growth]
    places = {piece: place for place, piece in enumerate(pieces)}
    cycles, chains, fillers = {}, {}, {}
    for place, piece in enumerate(pieces):
        border = {places[face]: sign % base for sign, face in faces(piece)}
        border, chain = _cleared(border, {place: 1}, cycles, chains, base)
        if len(border) == 0:
            cycles[place] = chain
        else:
            maker = max(border)
            factor = inverse_of(border[maker], base=base)
            fillers[maker] = piece
            cycles[maker], chains[maker] = _times(border, factor, base), _times(chain, factor, base)
    # The makers were met in their order, in which the dict keeps them.
    return [
        (pieces[maker], fillers.get(maker), {pieces[at]: entry for at, entry in cycle.items()})
        for maker, cycle in cycles.items()
    ]


def less_times(chain, factor, other, base):
    """The chain less the other one times the factor; both are dicts of the entries that are not 0."""
    changed = {key: chain[key] for key in chain}
    for key, entry in other.items():
        changed[key] = (changed.get(key, 0) - factor * entry) % base
    return {key: entry for key, entry in changed.items() if entry != 0}


def _cleared(border, chain, cycles, chains, base):
    """The border and its chain less multiples of others, until no maker that is filled is the last piece of it."""
    while len(border) > 0 and max(border) in chains:
        maker = max(border)
        factor = border[maker]
        border = less_times(border, factor, cycles[maker], base)
        chain = less_times(chain, factor, chains[maker], base)
    return border, chain


def _times(chain, factor, base):
    return {key: factor * entry % base for key, entry in chain.items()}
