"""Covered webs: how they are built of ears, and webs of one full pairing alone."""

from everypairing.checks import check_other_place, check_pairing, check_place, check_tie, check_web
from everypairing.checks import fits_tie, is_list, is_tuple
from everypairing.errors import InvalidPairing, NotCovered
from everypairing.finding import freed, greatest_mates, paired_whole
from everypairing.masks import all_places, is_odd, mask_of, near_masks, piece_mask, places_in
from everypairing.parts import is_covered_mask, pairs_whole, without_one
from everypairing.rows import fits_odd_ear, goes_along, mates_in, ties_along
from everypairing.shares_of_ties import greatest_with, idle_ties, is_covered


def takes_ear(web, place, other_place):
    """Whether the covered web stays covered with an ear of two new places between the two."""
    check_web(web)
    check_place(web, place)
    check_other_place(web, place, other_place)
    _check_covered(web)
    near = near_masks(web)
    mates = greatest_mates(near, all_places(web))[0]
    # Just so if the other places have a full pairing (G2).
    return without_one(near, all_places(web), mates, place) >> other_place & 1 == 1


def covered_ears(web, tie):
    """A covered building of the web from the tie."""
    check_web(web)
    check_tie(web, tie)
    _check_covered(web)
    return _built_along(web, greatest_with(web, tie), tie)


def is_covered_ears(web, tie, value):
    """Whether any value is a covered building of the web from the tie."""
    check_web(web)
    check_tie(web, tie)
    return _is_building(web, tie, value)


def covered_along(web, pairing):
    """A covered building along the pairing, from its first tie."""
    check_web(web)
    check_pairing(web, pairing)
    if 2 * len(pairing) < web[0]:
        raise InvalidPairing("the pairing is not full")
    _check_covered(web)
    return _built_along(web, pairing, pairing[0])


def is_covered_along(web, pairing, value):
    """Whether any value is a covered building along the pairing, from its first tie."""
    check_web(web)
    check_pairing(web, pairing)
    if 2 * len(pairing) < web[0] or not _is_building(web, pairing[0], value):
        return False
    return all([goes_along(ear, pairing) for stage in value for ear in stage])


def bridges(web):
    """The ascending list of the ties without which their piece is two pieces."""
    check_web(web)
    near = near_masks(web)
    return [tie for tie in web[1] if _parts_beside(near, all_places(web), tie)]


def lone_row(web):
    """A lone row of the web; None unless it has exactly one full pairing."""
    check_web(web)
    near = near_masks(web)
    row = []
    left = all_places(web)
    while left:
        # If there is a lone row, some tie can go on with whatever was taken so far (G7).
        fitting = [tie for tie in web[1] if _goes_on(near, left, tie)]
        if not fitting:
            return None
        row.append(fitting[0])
        left -= mask_of(fitting[0])
    return row


def is_lone_row(web, value):
    """Whether any value is a lone row of the web."""
    check_web(web)
    if not is_list(value) or 2 * len(value) != web[0]:
        return False
    near = near_masks(web)
    left = all_places(web)
    for tie in value:
        if not fits_tie(web, tie) or not _goes_on(near, left, tie):
            return False
        left -= mask_of(tie)
    return True


def _check_covered(web):
    """Raise NotCovered, with the first idle tie, unless the web is covered."""
    if not is_covered(web):
        idle = idle_ties(web)
        raise NotCovered(idle[0] if idle else ())


def _parts_beside(near, mask, tie):
    """The two pieces that the piece of the tie is without it, a list of masks; [] if it is one."""
    x, y = tie
    cut = list(near)
    cut[x] -= 1 << y
    cut[y] -= 1 << x
    part = piece_mask(cut, mask, x)
    return [] if part >> y & 1 else [part, piece_mask(cut, mask, y)]


def _goes_on(near, left, tie):
    """Whether the tie is, among the places that are left, a bridge between odd pieces."""
    wanted = mask_of(tie)
    if left & wanted != wanted:
        return False
    parts = _parts_beside(near, left, tie)
    return parts != [] and is_odd(parts[0]) and is_odd(parts[1])


def _with_ears(near, ears):
    """The masks near, with the ties of the ears put in."""
    grown = list(near)
    for ear in ears:
        for x, y in ties_along(ear):
            grown[x] |= 1 << y
            grown[y] |= 1 << x
    return grown


def _built_along(web, pairing, tie):
    """A covered building of a covered web from a tie of its full pairing, along this pairing."""
    n, ties = web
    near = near_masks(web)
    mates = mates_in(n, pairing)
    built = _with_ears([0] * n, [tie])
    there = mask_of(tie)
    stages = []
    while built != near:
        x, y = _fresh_tie(ties, built, there)
        rest = all_places(web) - mask_of((x, y))
        other = paired_whole(near, rest, freed(mates, (x, y)))[0]
        other[x] = y
        other[y] = x
        stage = _fitting_stage(built, there, _ears_between(built, there, mates, other))
        stages.append(stage)
        built = _with_ears(built, stage)
        there = mask_of([place for place in range(n) if built[place]])
    return stages


def _fresh_tie(ties, built, there):
    """The first tie that is not built yet and has an end that is there."""
    fresh = [(x, y) for x, y in ties if not built[x] >> y & 1]
    return [(x, y) for x, y in fresh if (there >> x | there >> y) & 1][0]


def _ears_between(built, there, mates, other):
    """The ears that two full pairings have, by turns, between the places that are there.

    mates pairs the places that are there among one another; the ears begin and end with ties of
    the other one that are not built yet.
    """
    ears = []
    for place in places_in(there):
        ear = (place, other[place])
        if built[place] >> other[place] & 1:
            continue
        while not there >> ear[-1] & 1:
            mate = mates[ear[-1]]
            ear = ear + (mate, other[mate])
        # Each ear comes up at both of its ends.
        if place < ear[-1]:
            ears.append(ear)
    return ears


def _fitting_stage(built, there, ears):
    """A stage of one or two of the ears that leaves what is built covered.

    All of them together leave it covered, and of such ears one or two always do; which of them
    do is told by full pairings without their ends (G2, G3).
    """
    stages = [(ear,) for ear in ears]
    stages += [(ear, other) for ear in ears for other in ears if ear < other]
    for stage in stages:
        ends = mask_of([place for ear in stage for place in (ear[0], ear[-1])])
        if pairs_whole(built, there - ends):
            return stage
    return None


def _is_building(web, tie, value):
    """Whether any value is a covered building of the web from the tie."""
    n, ties = web
    if not is_list(value):
        return False
    there = list(tie)
    used = [tie]
    built = _with_ears([0] * n, [tie])
    for stage in value:
        if not _is_stage(web, there, stage):
            return False
        fresh = [other for ear in stage for other in ties_along(ear)]
        if any([other in used for other in fresh]):
            return False
        used = used + fresh
        there = there + [place for ear in stage for place in ear[1:-1]]
        built = _with_ears(built, stage)
        if not is_covered_mask(built, mask_of(there)):
            return False
    return len(there) == n and len(used) == len(ties)


def _is_stage(web, there, value):
    """Whether any value is a stage on the places that are there."""
    if not is_tuple(value) or len(value) not in (1, 2):
        return False
    if not all([fits_odd_ear(web, there, ear) and ear[0] != ear[-1] for ear in value]):
        return False
    places = [place for ear in value for place in ear]
    return len(set(places)) == len(places)
