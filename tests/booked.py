"""Drawn books, and a slow search of their chains, for the tests of books and of their written form."""

from barswoven.bars import bars
from barswoven.book import Book
from barswoven.comparing import compare
from barswoven.pairing import least_pairing, pair_within

from drawn import any_bars, any_row, placed, shaken

NAMES = ("a", "b", "zz", "row", "woven", "lonely", "apart", "first", "second", "abcdefghijkl", "q", "x")


def any_rows(chance, base, many):
    """Drawn rows, most of which have weavings with each other."""
    last = chance.randrange(1, 5)
    told = any_bars(chance, last, chance.randrange(1, 4))
    rows = []
    for _ in range(many):
        near, _ = shaken(chance, told, last, chance.randrange(3))
        rows.append(placed(chance, base, last + chance.randrange(2), near)[0])
        if chance.randrange(6) == 0:
            rows[-1] = any_row(chance, base, chance.randrange(3), 2)
    return rows


def offers_of(chance, names, rows, many):
    """Drawn claims about the rows that hold: the method, and the arguments."""
    for _ in range(many):
        one, other = chance.randrange(len(names)), chance.randrange(len(names))
        first, second = rows[one], rows[other]
        paper, told = compare(first, second), least_pairing(bars(first), bars(second))
        if paper[0] == "apart":
            yield "offer_apart", (names[one], names[other], *paper[1:])
            continue
        word, *lot = pair_within(bars(first), bars(second), lag=chance.randrange(told[1] + 2))
        if told[1] and chance.randrange(3) == 0:
            lag = chance.randrange(told[1])
            word, *lot = pair_within(bars(first), bars(second), lag=lag)
            assert word == "lonely"
            yield "offer_lonely", (names[one], names[other], lag, *lot)
        else:
            weaving = paper[1].slowed(told[1] + chance.choice((0, 0, 1, 3)))
            yield "offer_weaving", (names[one], names[other], weaving)


def any_book(chance, base, most_rows, most_claims):
    """A drawn book with its names, rows and claims, as they were added and offered."""
    names = chance.sample(NAMES, chance.randrange(most_rows + 1))
    rows, claims = any_rows(chance, base, len(names)), []
    book = Book()
    for name, row in zip(names, rows):
        book.add(name, row)
    for method, told in offers_of(chance, names, rows, chance.randrange(most_claims + 1) if names else 0):
        assert getattr(book, method)(*told) is True
        claims.append(({"offer_weaving": "woven", "offer_lonely": "lonely", "offer_apart": "apart"}[method], *told))
    return book, names, rows, claims


def chains(claims, start, end):
    """All chains without a name twice, each as the list of its weavings in the direction of the chain."""
    def further(name, seen):
        if name == end:
            yield []
            return
        for claim in claims:
            if claim[0] == "woven":
                _, first, second, weaving = claim
                for here, there, way in ((first, second, weaving), (second, first, weaving.turned())):
                    if here == name and there not in seen:
                        for rest in further(there, seen | {there}):
                            yield [way, *rest]
    return list(further(start, {start}))


def least_sum(claims, start, end):
    return min((sum(way.lag for way in chain) for chain in chains(claims, start, end)), default=None)


def least_told(claims, first, second):
    """The greatest number that the lonely lots tell, after point [38]."""
    found = [0]
    for claim in claims:
        if claim[0] == "lonely":
            _, a, b, lag, _, _ = claim
            for x, y in (
                (least_sum(claims, first, a), least_sum(claims, second, b)),
                (least_sum(claims, first, b), least_sum(claims, second, a)),
            ):
                if x is not None and y is not None:
                    found.append(lag + 1 - x - y)
    return max(found)


def told_apart(claims, first, second):
    return any(
        claim[0] == "apart" and any(
            chains(claims, first, a) and chains(claims, second, b)
            for a, b in ((claim[1], claim[2]), (claim[2], claim[1]))
        )
        for claim in claims
    )
