"""Pairings of two lists of bars, and what shows that there is none."""

def are_near(bar, other, *, lag):
    """True if the two bars are near within the lag, otherwise False."""
    (birth, death), (other_birth, other_death) = bar, other
    if abs(birth - other_birth) > lag:
        return False
    if death is None or other_death is None:
        return death is None and other_death is None
    return abs(death - other_death) <= lag


def is_long(bar, *, lag):
    """True if the bar never dies or lives for more than twice the lag, otherwise False."""
    birth, death = bar
    return death is None or death - birth > 2 * lag


def is_pairing(first, second, pairs, *, lag):
    """True if the pairs are a pairing of the two lists within the lag, otherwise False."""
    ours, theirs = [one for one, _ in pairs], [other for _, other in pairs]
    return (
        _are_places(ours, first)
        and _are_places(sorted(theirs), second)
        and all([are_near(first[one], second[other], lag=lag) for one, other in pairs])
        and not any([is_long(first[place], lag=lag) for place in _left_out(first, ours)])
        and not any([is_long(second[place], lag=lag) for place in _left_out(second, theirs)])
    )


def is_lonely(first, second, side, places, *, lag):
    """True if the side and the places are a lonely lot for the lag, otherwise False."""
    ours, theirs = _of_side(first, second, side)
    if not _are_places(places, ours) or not all([is_long(ours[place], lag=lag) for place in places]):
        return False
    near = [other for other in theirs if any([are_near(ours[place], other, lag=lag) for place in places])]
    return len(near) < len(places)


def is_apart(first, second, side, places):
    """True if these bars of the side never die and are more than those of the other one, otherwise False."""
    ours, theirs = _of_side(first, second, side)
    if not _are_places(places, ours) or not all([ours[place][1] is None for place in places]):
        return False
    return len(places) > len(_lasting(theirs))


def pair_within(first, second, *, lag):
    """A pairing of the two lists within the lag, or a lonely lot."""
    mates, others = {}, {}
    lot = _pair_long_ones(first, second, mates, others, lag)
    if lot is not None:
        return ("lonely", "first", lot)
    # What is paired of the first list stays so, perhaps with other bars of the second one.
    lot = _pair_long_ones(second, first, others, mates, lag)
    if lot is not None:
        return ("lonely", "second", lot)
    return ("paired", tuple(sorted(mates.items())))


def least_pairing(first, second):
    """The least lag for which there is a pairing, with a pairing; or what shows that there is none."""
    ours, theirs = _lasting(first), _lasting(second)
    if len(ours) > len(theirs):
        return ("apart", "first", tuple(ours))
    if len(ours) < len(theirs):
        return ("apart", "second", tuple(theirs))
    # A pairing within a lag is one within each greater lag, too.
    least, enough = 0, _great_lag(list(first) + list(second))
    while least < enough:
        middle = (least + enough) // 2
        if pair_within(first, second, lag=middle)[0] == "paired":
            enough = middle
        else:
            least = middle + 1
    _, pairs = pair_within(first, second, lag=least)
    lonely = None if least == 0 else pair_within(first, second, lag=least - 1)
    return ("within", least, pairs, lonely)


def by_deaths(part, whole, *, lag=0):
    """The pairs of the bars with each death, the eldest first, for a map that is into."""
    pairs = []
    for death in _different([bar[1] for bar in part]):
        later = None if death is None else death + lag
        pairs = pairs + list(zip(_eldest_first(part, death), _eldest_first(whole, later)))
    return sorted(pairs)


def by_births(whole, made):
    """The pairs of the bars with each birth, the last to die first, for a map that is onto."""
    pairs = []
    for birth in _different([bar[0] for bar in made]):
        pairs = pairs + list(zip(_last_to_die_first(whole, birth), _last_to_die_first(made, birth)))
    return sorted(pairs)


def _of_side(first, second, side):
    """The list of the side, and the other one."""
    if side == "first":
        return first, second
    return second, first


def _are_places(places, bars):
    """True if the places are ascending, different indexes of the bars."""
    return all([0 <= place < len(bars) for place in places]) and list(places) == sorted(set(places))


def _left_out(bars, places):
    """The list of the indexes of the bars that are not among the places."""
    taken = {place: True for place in places}
    return [place for place in range(len(bars)) if place not in taken]


def _lasting(bars):
    """The list of the indexes of the bars that never die."""
    return [place for place, (_, death) in enumerate(bars) if death is None]


def _great_lag(bars):
    """A lag within which all bars that never die are near to each other, and no other bar is long."""
    times = [birth for birth, _ in bars] + [death for _, death in bars if death is not None]
    return max(times, default=0) - min(times, default=0)


def _pair_long_ones(ours, theirs, mates, others, lag):
    """Pair all long bars of ours, and leave none of theirs alone for it; or return a lonely lot of ours.

    mates has their index for each index of ours that is paired, others the other way round.
    """
    near = {}
    for bar in ours:
        if is_long(bar, lag=lag) and bar not in near:
            near[bar] = [place for place, other in enumerate(theirs) if are_near(bar, other, lag=lag)]
    for place, bar in enumerate(ours):
        if bar in near and place not in mates:
            lot = _pair_one(place, ours, near, mates, others)
            if lot is not None:
                return lot
    return None


def _pair_one(start, ours, near, mates, others):
    """Pair the long bar at the place start, perhaps by new mates for other long ones; or return a lonely lot."""
    came, reached, done = {}, [start], 0
    while done < len(reached):
        place = reached[done]
        for other in near[ours[place]]:
            if other not in came:
                came[other] = place
                mate = others.get(other)
                if mate is None or ours[mate] not in near:
                    _pair_along(other, came, mates, others)
                    return None
                reached.append(mate)
        done = done + 1
    # All that is near to the bars reached is paired with one of them, and the first one is still alone.
    return tuple(sorted(reached))


def _pair_along(other, came, mates, others):
    """Pair the other one with the place from which it was reached, what this one leaves likewise, up to the start."""
    if other in others:
        del mates[others[other]]
    while other is not None:
        place = came[other]
        left = mates.get(place)
        mates[place] = other
        others[other] = place
        other = left


def _different(numbers):
    """The list of the different ones, each once."""
    return list({number: True for number in numbers})


def _eldest_first(bars, death):
    """The indexes of the bars with this death, by their births."""
    found = sorted([(bar[0], place) for place, bar in enumerate(bars) if bar[1] == death])
    return [place for _, place in found]


def _last_to_die_first(bars, birth):
    """The indexes of the bars with this birth: those that never die, then from the latest death to the earliest."""
    endless = [place for place, bar in enumerate(bars) if bar == (birth, None)]
    found = sorted([(-bar[1], place) for place, bar in enumerate(bars) if bar[0] == birth and bar[1] is not None])
    return endless + [place for _, place in found]
