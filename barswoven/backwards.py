"""Rows, bars and frames read backwards."""

from barswoven.bars import lives, sorted_bars
from barswoven.frames import order_of_strand, vectors_at
from barswoven.row import Row
from barswoven.solving import inverse


def turned_row(row):
    """The row read backwards by forms, whose steps are the transposed ones."""
    steps = [step.transposed() for step in reversed(row.steps)]
    return Row(row.base, list(reversed(row.dims)), steps)


def turned_bars(bars, last):
    """The sorted list of the bars of a row with this last time that is read backwards."""
    return sorted_bars([_turned_bar(bar, last) for bar in bars])


def turned_strands(row, strands):
    """The frame of the turned row whose vectors are the forms that tell the strands of a frame apart."""
    turned = [[] for _ in strands]
    for time in reversed(range(row.last + 1)):
        living = [place for place, (bar, _) in enumerate(strands) if lives(bar, time)]
        # Row k of the inverse is 1 at the k-th living vector and 0 at the other ones. Taken back by a step it does
        # so too, as the step takes each vector to the next one of its strand or to zero.
        forms = inverse(vectors_at(row, strands, time)).rows
        for place, form in zip(living, forms):
            turned[place].append(form)
    found = [(_turned_bar(bar, row.last), tuple(forms)) for (bar, _), forms in zip(strands, turned)]
    return tuple(sorted(found, key=order_of_strand))


def _turned_bar(bar, last):
    """What is alive at T - t if the bar is alive at t, where T is the last time."""
    birth, death = bar
    return (
        0 if death is None else last + 1 - death,
        None if birth == 0 else last + 1 - birth,
    )
