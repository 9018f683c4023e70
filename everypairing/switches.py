"""How one pairing is led to another one by rows of switches."""

from everypairing.checks import MOST_LISTED
from everypairing.checks import check_at_most, check_number, check_pairing, check_place, check_tie
from everypairing.checks import check_web, fits_place, is_list, is_text, is_tuple
from everypairing.errors import InvalidSwitch, NotGreatest
from everypairing.greatest import longer_row
from everypairing.listing import greatest_pairings
from everypairing.lots import leaving
from everypairing.rows import exchanged, mates_in, tie_of, ties_along
from everypairing.shares_of_ties import greatest_avoiding, greatest_with


def difference(web, pairing, other_pairing):
    """The ascending list of the parts of the difference of the two pairings."""
    _check_two(web, pairing, other_pairing)
    return _parts(web[0], pairing, other_pairing)


def is_switch(web, pairing, value):
    """Whether any value is a switch of the pairing."""
    check_web(web)
    check_pairing(web, pairing)
    return _fits_switch(web, pairing, value)


def switched(web, pairing, switch):
    """The pairing behind the switch."""
    check_web(web)
    check_pairing(web, pairing)
    if not _fits_switch(web, pairing, switch):
        raise InvalidSwitch("no switch of the pairing")
    return _behind(pairing, switch)


def is_switch_row(web, pairing, other_pairing, value):
    """Whether any value is a switch row from the pairing to the other one."""
    _check_two(web, pairing, other_pairing)
    if not is_list(value):
        return False
    for switch in value:
        if not _fits_switch(web, pairing, switch):
            return False
        pairing = _behind(pairing, switch)
    return pairing == other_pairing


def fewest_switches(web, pairing, other_pairing):
    """The least number of switches of a switch row from the pairing to the other one."""
    return len(switch_row(web, pairing, other_pairing))


def switch_row(web, pairing, other_pairing):
    """A switch row of as few switches as can be from the pairing to the other one."""
    _check_two(web, pairing, other_pairing)
    _check_both_greatest(web, pairing, other_pairing)
    n = web[0]
    parts = _parts(n, pairing, other_pairing)
    # Two parts need two switches, and each part that is a row needs one of its own (H2). Four
    # parts have room in 12 places only if all are rows; so just three can be too many.
    if len(parts) == 3 and "round" in [kind for kind, _ in parts]:
        for between in greatest_pairings(web):
            first = _parts(n, pairing, between)
            if len(first) == 1:
                second = _parts(n, between, other_pairing)
                if len(second) == 1:
                    return first + second
    return parts


def switch_at(web, pairing, tie):
    """A switch that has the tie; None if there is none."""
    check_web(web)
    check_pairing(web, pairing)
    check_tie(web, tie)
    _check_greatest(web, pairing)
    other = greatest_avoiding(web, tie) if tie in pairing else greatest_with(web, tie)
    if other is None:
        return None
    parts = _parts(web[0], pairing, other)
    return [part for part in parts if tie in _ties_of_part(part)][0]


def switch_to_alone(web, pairing, place):
    """A switch behind which the place is alone, ahead of which it is not; None without one."""
    check_web(web)
    check_pairing(web, pairing)
    check_place(web, place)
    _check_greatest(web, pairing)
    other = leaving(web, place)
    if other is None or mates_in(web[0], pairing)[place] is None:
        return None
    parts = _parts(web[0], pairing, other)
    return [part for part in parts if place in part[1]][0]


def between_count(web, pairing, other_pairing):
    """How many greatest pairings have ties of these two alone, and all that both have."""
    _check_two(web, pairing, other_pairing)
    _check_both_greatest(web, pairing, other_pairing)
    return len(_all_between(web[0], pairing, other_pairing))


def nth_between(web, pairing, other_pairing, number):
    """The one of them with this index in their ascending list; None if there are not so many."""
    _check_two(web, pairing, other_pairing)
    check_number(number)
    _check_both_greatest(web, pairing, other_pairing)
    found = _all_between(web[0], pairing, other_pairing)
    return found[number] if number < len(found) else None


def small_classes(web):
    """The list of the classes of the greatest pairings that small switches lead through."""
    check_web(web)
    check_at_most(web[0], MOST_LISTED)
    classes = []
    seen = {}
    for pairing in greatest_pairings(web):
        if pairing not in seen:
            reached = list(_small_ways(web, pairing))
            for other in reached:
                seen[other] = True
            classes.append(sorted(reached))
    return classes


def small_row(web, pairing, other_pairing):
    """A switch row of small switches, as few as can be; None if there is none."""
    _check_two(web, pairing, other_pairing)
    _check_both_greatest(web, pairing, other_pairing)
    check_at_most(web[0], MOST_LISTED)
    came_from = _small_ways(web, pairing)
    if other_pairing not in came_from:
        return None
    row = []
    last = other_pairing
    while last != pairing:
        row = _parts(web[0], came_from[last], last) + row
        last = came_from[last]
    return row


def _check_two(web, pairing, other_pairing):
    """The errors of a web and two pairings of it."""
    check_web(web)
    check_pairing(web, pairing)
    check_pairing(web, other_pairing)


def _check_greatest(web, pairing):
    """Raise NotGreatest unless the pairing is greatest."""
    row = longer_row(web, pairing)
    if row is not None:
        raise NotGreatest(row)


def _check_both_greatest(web, pairing, other_pairing):
    """Raise NotGreatest unless the pairing, then the other one, is greatest."""
    _check_greatest(web, pairing)
    _check_greatest(web, other_pairing)


def _parts(n, pairing, other_pairing):
    """The ascending list of the parts of the difference of two pairings of n places."""
    mates = mates_in(n, [tie for tie in pairing if tie not in other_pairing])
    other_mates = mates_in(n, [tie for tie in other_pairing if tie not in pairing])
    rows = []
    seen = {}
    for place in range(n):
        ways = [way[place] for way in (mates, other_mates)]
        if place not in seen and ways.count(None) == 1:
            turns = (mates, other_mates) if ways[1] is None else (other_mates, mates)
            places = _walked(place, turns)
            rows.append(("row", places))
            seen.update({passed: True for passed in places})
    rounds = []
    for place in range(n):
        if place not in seen and mates[place] is not None:
            second = min(mates[place], other_mates[place])
            turns = (mates, other_mates) if mates[place] == second else (other_mates, mates)
            places = _walked(place, turns)
            rounds.append(("round", places))
            seen.update({passed: True for passed in places})
    return sorted(rounds + rows)


def _walked(start, turns):
    """The places from the start on along the mates by turns, to an end or round to the start."""
    places = [start]
    last = turns[0][start]
    at = 1
    while last is not None and last != start:
        places.append(last)
        last = turns[at % 2][last]
        at += 1
    return tuple(places)


def _ties_of_part(part):
    """The list of the ties of a part, or of a switch."""
    kind, places = part
    if kind == "round":
        return ties_along(places + places[:1])
    return ties_along(places)


def _behind(pairing, switch):
    """The pairing behind the switch."""
    return exchanged(pairing, _ties_of_part(switch))


def _fits_switch(web, pairing, value):
    """Whether any value is a switch of the pairing."""
    n, ties = web
    if not is_tuple(value) or len(value) != 2 or not is_text(value[0]) or not is_tuple(value[1]):
        return False
    kind, places = value
    if not all([fits_place(n, place) for place in places]) or len(set(places)) < len(places):
        return False
    if kind == "round":
        told = len(places) >= 4 and len(places) % 2 == 0
        told = told and places[0] == min(places) and places[1] < places[-1]
    else:
        told = kind == "row" and len(places) >= 3 and len(places) % 2 == 1
        told = told and places[0] < places[-1]
    if not told:
        return False
    part_ties = _ties_of_part(value)
    inside = [tie in pairing for tie in part_ties]
    by_turns = all([one != other for one, other in zip(inside, inside[1:])])
    if not by_turns or not all([tie in ties for tie in part_ties]):
        return False
    coming = places[-1] if inside[0] else places[0]
    return kind == "round" or mates_in(n, pairing)[coming] is None


def _all_between(n, pairing, other_pairing):
    """The ascending list of the greatest pairings of ties of the two, with those of both."""
    found = [[tie for tie in pairing if tie in other_pairing]]
    for part in _parts(n, pairing, other_pairing):
        choices = _choices(part)
        found = [taken + choice for taken in found for choice in choices]
    return sorted([tuple(sorted(taken)) for taken in found])


def _choices(part):
    """The list of the lists of the ties of a part by which its places can be paired."""
    ties = _ties_of_part(part)
    if part[0] == "round":
        return [ties[::2], ties[1::2]]
    # The place with the index 0, 2, .. is alone: the ties ahead of it and behind it by turns.
    return [ties[:at:2] + ties[at + 1::2] for at in range(0, len(ties) + 1, 2)]


def _small_ways(web, pairing):
    """The dict of the pairings to which small switches lead, each with the one ahead of it.

    The first one that comes up is ahead, so the rows of them are as short as can be.
    """
    came_from = {pairing: None}
    waiting = [pairing]
    at = 0
    while at < len(waiting):
        ahead = waiting[at]
        for other in _small_steps(web, ahead):
            if other not in came_from:
                came_from[other] = ahead
                waiting.append(other)
        at += 1
    return came_from


def _small_steps(web, pairing):
    """The list of the pairings to which one small switch of the pairing leads."""
    n, ties = web
    found = []
    mates = mates_in(n, pairing)
    singles = [place for place in range(n) if mates[place] is None]
    for one in pairing:
        x, y = one
        for u, w in [other for other in pairing if other > one]:
            for fresh in ([tie_of(x, u), tie_of(y, w)], [tie_of(x, w), tie_of(y, u)]):
                if fresh[0] in ties and fresh[1] in ties:
                    found.append(exchanged(pairing, fresh + [one, (u, w)]))
        for tie in [tie_of(end, place) for end in one for place in singles]:
            if tie in ties:
                found.append(exchanged(pairing, [tie, one]))
    return found
