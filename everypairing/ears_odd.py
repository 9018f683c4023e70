"""Near-full webs: hindrances, lumps, and how they are built of odd ears."""

from itertools import combinations

from everypairing.checks import check_pairing, check_place, check_web, is_list
from everypairing.errors import InvalidEars, InvalidPairing, NotBuilt
from everypairing.finding import first_full, greatest_mates, grown, spare_of, ties_of
from everypairing.masks import all_places, in_lot_order, mask_of
from everypairing.masks import near_masks, odd_piece_masks, piece_masks, places_in
from everypairing.parts import lean_masks, pairing_leaving
from everypairing.rows import fits_odd_ear, goes_along, mate_ties, mates_in, ties_along
from everypairing.tables import tallies
from everypairing.webs import alone


def is_near_full(web):
    """Whether for each place some pairing leaves just this place alone."""
    check_web(web)
    everything = all_places(web)
    mates, ways = greatest_mates(near_masks(web), everything)
    # With one place alone, and all open, the web is joined, since each piece has an open place.
    return spare_of(everything, mates) == 1 and mask_of(ways) == everything


def near_pairing(web, place):
    """The first of the pairings that leave just this place alone; None without one."""
    check_web(web)
    check_place(web, place)
    near = near_masks(web)
    mates = pairing_leaving(near, all_places(web), place)
    if mates is None or spare_of(all_places(web), mates) > 1:
        return None
    return first_full(near, all_places(web) - (1 << place), mates)


def near_counts(web):
    """The tuple of the numbers of the pairings that leave just one place alone, by the place."""
    check_web(web)
    mates, opened, _, lean = lean_masks(near_masks(web))
    if spare_of(all_places(web), mates) != 1:
        return (0,) * web[0]
    return tuple(tallies(lean, all_places(web), opened, len(ties_of(mates)))[2])


def hindrance(web):
    """The first hindrance in lot order; None without one."""
    check_web(web)
    if is_near_full(web):
        return None
    near = near_masks(web)
    # If n is even, an odd number of places, so an odd piece, is left without the place 0.
    for size in range(1, web[0] + 1):
        for lot in combinations(range(web[0]), size):
            rest = all_places(web) - mask_of(lot)
            if len(odd_piece_masks(near, rest)) >= size:
                return lot
    return None


def lumps(web):
    """The list of the lumps in lot order."""
    check_web(web)
    near = near_masks(web)
    found = []
    for piece in piece_masks(near, all_places(web)):
        found.extend(_lumps_of_joined(near, piece))
    return in_lot_order([places_in(mask) for mask in found])


def odd_ears(web, place):
    """A building of the web from the place."""
    check_web(web)
    check_place(web, place)
    _check_near_full(web)
    return _built_along(web, near_pairing(web, place), place)


def is_odd_ears(web, place, value):
    """Whether any value is a building of the web from the place."""
    check_web(web)
    check_place(web, place)
    return _is_building(web, place, value)


def ears_along(web, pairing):
    """A building along the pairing, from the place that it leaves alone."""
    check_web(web)
    check_pairing(web, pairing)
    places = alone(web, pairing)
    if len(places) != 1:
        raise InvalidPairing("the pairing does not leave just one place alone")
    _check_near_full(web)
    return _built_along(web, pairing, places[0])


def is_ears_along(web, pairing, value):
    """Whether any value is a building along the pairing, from the place that it leaves alone."""
    check_web(web)
    check_pairing(web, pairing)
    places = alone(web, pairing)
    if len(places) != 1 or not _is_building(web, places[0], value):
        return False
    return all([goes_along(ear, pairing) for ear in value])


def near_by_ears(web, place, ears, goal):
    """The pairing that leaves just the goal alone, as the building from the place tells it."""
    check_web(web)
    check_place(web, place)
    if not _is_building(web, place, ears):
        raise InvalidEars("no building of the web from the place")
    check_place(web, goal)
    ties = []
    staying = goal
    for ear in reversed(ears):
        ties.extend(_ties_beside(ear, staying))
        staying = _staying_behind(ear, staying)
    return tuple(sorted(ties))


def _lumps_of_joined(near, mask):
    """The list of the masks of the lumps of a joined lot."""
    for place in places_in(mask):
        parts = piece_masks(near, mask - (1 << place))
        if len(parts) > 1:
            # No lump has places of two of the parts, so each is within one part and the place.
            inside = [_lumps_of_joined(near, part | 1 << place) for part in parts]
            return [lump for lumps_of_part in inside for lump in lumps_of_part]
    return [mask]


def _check_near_full(web):
    """Raise NotBuilt unless the web is near-full."""
    lot = hindrance(web)
    if lot is not None:
        raise NotBuilt(lot)


def _built_along(web, pairing, place):
    """A building of a near-full web along the pairing that leaves just the place alone."""
    ways = grown(near_masks(web), all_places(web), mates_in(web[0], pairing), place)[1]
    there = [place]
    ears = []
    while len(there) < web[0]:
        inside, outside = _leading_out(web, there)
        # No tie of the pairing leads out of what is there, so the way back from the place outside
        # comes there behind an even number of ties, and the inner places are mates.
        ear = [inside] + _until(ways[outside][::-1], there)
        ears.append(tuple(ear))
        there = there + ear[1:-1]
    used = [tie for ear in ears for tie in ties_along(ear)]
    return ears + [tie for tie in web[1] if tie not in used]


def _leading_out(web, there):
    """The ends of the first tie that leads out of the places, the one that is there first."""
    x, y = [tie for tie in web[1] if (tie[0] in there) != (tie[1] in there)][0]
    return (x, y) if x in there else (y, x)


def _until(row, there):
    """The row up to the first place that is there."""
    first = [at for at in range(len(row)) if row[at] in there][0]
    return list(row[:first + 1])


def _is_building(web, place, value):
    """Whether any value is a building of the web from the place."""
    n, ties = web
    if not is_list(value):
        return False
    there = [place]
    used = []
    for ear in value:
        if not fits_odd_ear(web, there, ear):
            return False
        fresh = ties_along(ear)
        if any([tie in used for tie in fresh]):
            return False
        used = used + fresh
        there = there + list(ear[1:-1])
    return len(there) == n and len(used) == len(ties)


def _ties_beside(ear, staying):
    """The ties of the ear that pair its inner places while this place stays alone."""
    last = len(ear) - 1
    if staying not in ear[1:-1]:
        return mate_ties(ear, 1, last - 1)
    at = ear.index(staying)
    if at % 2 == 1:
        return mate_ties(ear, 1, at - 1) + mate_ties(ear, at + 1, last)
    return mate_ties(ear, 0, at - 1) + mate_ties(ear, at + 1, last - 1)


def _staying_behind(ear, staying):
    """The place that is to stay alone in what was there ahead of the ear."""
    if staying not in ear[1:-1]:
        return staying
    return ear[-1] if ear.index(staying) % 2 == 1 else ear[0]
