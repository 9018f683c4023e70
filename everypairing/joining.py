"""Webs put together, stretched, doubled and drawn, and how pairings are led along."""

from everypairing.checks import MOST_PLACES
from everypairing.checks import check_at_most, check_lot, check_pairing, check_place
from everypairing.checks import check_tie, check_web
from everypairing.errors import InvalidLot, InvalidPairing, NotNearFull
from everypairing.finding import greatest_mates, ties_of
from everypairing.masks import mask_of, near_masks, places_in
from everypairing.parts import pairs_whole
from everypairing.rows import mates_in, tie_of
from everypairing.webs import beside, inner


def joined_webs(web, other_web):
    """The two beside one another, each place of the one tied with each place of the other."""
    check_web(web)
    check_web(other_web)
    n = web[0]
    both, ties = beside(web, other_web)
    between = tuple([(x, y) for x in range(n) for y in range(n, both)])
    return (both, tuple(sorted(ties + between)))


def put_in(web, place, other_web):
    """The web in which the other web takes the place of the place."""
    check_web(web)
    check_place(web, place)
    check_web(other_web)
    kept = _without(web, (place,))
    m, other_ties = other_web
    check_at_most(len(kept) + m, MOST_PLACES)
    first = len(kept)
    ties = _ties_between(web, kept) + [(x + first, y + first) for x, y in other_ties]
    near = near_masks(web)[place]
    for at, x in enumerate(kept):
        if near >> x & 1:
            ties.extend([(at, y + first) for y in range(m)])
    return (first + m, tuple(sorted(ties)))


def stretched(web, tie):
    """The web in which two new places stand within the tie."""
    check_web(web)
    check_tie(web, tie)
    check_at_most(web[0] + 2, MOST_PLACES)
    return _stretched(web, tie)


def doubled(web, place, lot):
    """The web in which the first of two new places takes over the ties of the place with the lot."""
    check_web(web)
    check_place(web, place)
    _check_tied(web, place, lot)
    check_at_most(web[0] + 2, MOST_PLACES)
    return _doubled(web, place, lot)


def drawn(web, lot):
    """The web in which the places of the lot become one, the last one."""
    check_web(web)
    _check_some(web, lot)
    return _drawn(web, lot)


def to_stretched(web, tie, pairing):
    """The pairing led to the stretched web."""
    check_web(web)
    check_tie(web, tie)
    check_pairing(web, pairing)
    n = web[0]
    check_at_most(n + 2, MOST_PLACES)
    if tie not in pairing:
        return tuple(sorted(pairing + ((n, n + 1),)))
    kept = [other for other in pairing if other != tie]
    return tuple(sorted(kept + _ties_at_ends(web, tie)))


def from_stretched(web, tie, new_pairing):
    """The pairing of the stretched web led back."""
    check_web(web)
    check_tie(web, tie)
    _check_new_pairing(_stretched(web, tie), new_pairing)
    kept = [(x, y) for x, y in new_pairing if y < web[0]]
    if all([end in new_pairing for end in _ties_at_ends(web, tie)]):
        kept.append(tie)
    return tuple(sorted(kept))


def to_doubled(web, place, lot, pairing):
    """The pairing led to the doubled web."""
    check_web(web)
    check_place(web, place)
    _check_tied(web, place, lot)
    check_pairing(web, pairing)
    n = web[0]
    check_at_most(n + 2, MOST_PLACES)
    mate = mates_in(n, pairing)[place]
    if mate not in lot:
        return tuple(sorted(pairing + ((n, n + 1),)))
    kept = [tie for tie in pairing if place not in tie]
    return tuple(sorted(kept + [(mate, n), (place, n + 1)]))


def from_doubled(web, place, lot, new_pairing):
    """The pairing of the doubled web led back."""
    check_web(web)
    check_place(web, place)
    _check_tied(web, place, lot)
    _check_new_pairing(_doubled(web, place, lot), new_pairing)
    n = web[0]
    kept = [(x, y) for x, y in new_pairing if y < n]
    mate = mates_in(n + 2, new_pairing)[n]
    if mate in lot and not any([place in tie for tie in kept]):
        kept.append(tie_of(mate, place))
    return tuple(sorted(kept))


def from_drawn(web, lot, new_pairing):
    """A pairing of the web that has what the pairing of the drawn web has, and pairs the lot."""
    check_web(web)
    _check_some(web, lot)
    _check_new_pairing(_drawn(web, lot), new_pairing)
    near = near_masks(web)
    mask = mask_of(lot)
    for place in lot:
        if not pairs_whole(near, mask - (1 << place)):
            raise NotNearFull(place)
    ties, mate = _led_from_one(_without(web, lot), new_pairing)
    left = lot[0]
    if mate is not None:
        left = places_in(near[mate] & mask)[0]
        ties.append(tie_of(left, mate))
    within = ties_of(greatest_mates(near, mask - (1 << left))[0])
    return tuple(sorted(ties + list(within)))


def kernel(web):
    """The tuple of the web that is left when no step can be taken any more, and the steps."""
    check_web(web)
    webs, steps = _steps_from(web)
    return (webs[-1], steps)


def from_kernel(web, new_pairing):
    """A pairing of the web, led back from one of what its steps leave."""
    check_web(web)
    webs, steps = _steps_from(web)
    # Without a place there is no web, and no pairing but that of no tie.
    _check_new_pairing((0, ()) if webs[-1] is None else webs[-1], new_pairing)
    pairing = new_pairing
    for at in reversed(range(len(steps))):
        pairing = _led_back(webs[at], steps[at], pairing)
    return pairing


def _without(web, lot):
    """The tuple of the places that are not in the lot."""
    return tuple([place for place in range(web[0]) if place not in lot])


def _ties_between(web, kept):
    """The list of the ties between the kept places, told by their indexes."""
    number = {place: at for at, place in enumerate(kept)}
    return [(number[x], number[y]) for x, y in web[1] if x in number and y in number]


def _stretched(web, tie):
    """The stretched web, of any number of places."""
    n, ties = web
    kept = [other for other in ties if other != tie]
    return (n + 2, tuple(sorted(kept + _ties_at_ends(web, tie) + [(n, n + 1)])))


def _ties_at_ends(web, tie):
    """The list of the ties that lead from the ends of a stretched tie to the new places."""
    n = web[0]
    return [(tie[0], n), (tie[1], n + 1)]


def _doubled(web, place, lot):
    """The doubled web, of any number of places."""
    n, ties = web
    gone = [tie_of(place, other) for other in lot]
    kept = [tie for tie in ties if tie not in gone]
    fresh = [(other, n) for other in lot] + [(place, n + 1), (n, n + 1)]
    return (n + 2, tuple(sorted(kept + fresh)))


def _drawn(web, lot):
    """The drawn web."""
    kept = _without(web, lot)
    near = near_masks(web)
    mask = mask_of(lot)
    fresh = [(at, len(kept)) for at, place in enumerate(kept) if near[place] & mask]
    return (len(kept) + 1, tuple(sorted(_ties_between(web, kept) + fresh)))


def _led_from_one(kept, new_pairing):
    """The tuple (ties, mate) of a pairing of the kept places and of a new one behind them.

    ties is the list of those between kept places, told by these; mate is that of the new place,
    None if it is alone.
    """
    ties = []
    mate = None
    for x, y in new_pairing:
        if y < len(kept):
            ties.append((kept[x], kept[y]))
        else:
            mate = kept[x]
    return (ties, mate)


def _steps_from(web):
    """The tuple (webs, steps): the web and those behind each step, None for no place left."""
    webs = [web]
    steps = []
    step = _step_of(web)
    while step is not None:
        steps.append(step)
        webs.append(_behind(webs[-1], step))
        step = None if webs[-1] is None else _step_of(webs[-1])
    return (webs, steps)


def _step_of(web):
    """The step of the web; None if each place has three ties or more."""
    near = [places_in(mask) for mask in near_masks(web)]
    counts = [len(places) for places in near]
    fewest = min(counts)
    if fewest > 2:
        return None
    place = counts.index(fewest)
    word = ("alone", "hanging", "drawn")[fewest]
    return (word, place) + near[place]


def _behind(web, step):
    """The web behind the step; None if no place is left."""
    places = tuple(sorted(step[1:]))
    if step[0] == "drawn":
        return _drawn(web, places)
    kept = _without(web, places)
    return None if kept == () else inner(web, kept)


def _led_back(web, step, pairing):
    """The pairing of the web behind the step led back, with a tie more unless a place was alone."""
    ties, mate = _led_from_one(_without(web, step[1:]), pairing)
    if step[0] == "hanging":
        ties.append(tie_of(step[1], step[2]))
    elif step[0] == "drawn":
        _, x, y, z = step
        if mate is not None:
            # The neighbours of x are y and z alone, so a mate of the three is tied with one of them.
            if tie_of(mate, y) not in web[1]:
                y, z = z, y
            ties.append(tie_of(mate, y))
        ties.append(tie_of(x, z))
    return tuple(sorted(ties))


def _check_tied(web, place, lot):
    """Raise InvalidLot unless it is a lot of places that are tied with the place."""
    check_lot(web, lot)
    if mask_of(lot) & ~near_masks(web)[place]:
        raise InvalidLot("not all are tied with the place")


def _check_some(web, lot):
    """Raise InvalidLot unless it is a lot of one place or more."""
    check_lot(web, lot)
    if lot == ():
        raise InvalidLot("no place that could become one")


def _check_new_pairing(new_web, new_pairing):
    """Raise InvalidPairing unless it is a pairing of the new web, of at most 12 places."""
    if new_web[0] > MOST_PLACES:
        raise InvalidPairing("there would be too many places")
    check_pairing(new_web, new_pairing)
