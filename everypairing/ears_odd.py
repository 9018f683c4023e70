"""Near-full webs: hindrances, lumps, and how they are built of odd ears."""

from everypairing.checks import check_pairing, check_place, check_web
from everypairing.checks import fits_place, is_list, is_tuple
from everypairing.errors import InvalidEars, InvalidPairing, NotBuilt
from everypairing.masks import all_places, greatest_masks, in_lot_order
from everypairing.masks import near_masks, piece_mask, places_in
from everypairing.rows import mates_in, tie_of, ties_along, walked
from everypairing.tables import count_table, excess_table, first_greatest, size_table, spare_of
from everypairing.webs import alone


def is_near_full(web):
    """Whether for each place some pairing leaves just this place alone."""
    check_web(web)
    sizes = size_table(near_masks(web))
    return all([_pairs_without(sizes, place) for place in range(web[0])])


def near_pairing(web, place):
    """The first of the pairings that leave just this place alone; None without one."""
    check_web(web)
    check_place(web, place)
    near = near_masks(web)
    sizes = size_table(near)
    if not _pairs_without(sizes, place):
        return None
    return first_greatest(near, sizes, all_places(web) - (1 << place))


def near_counts(web):
    """The tuple of the numbers of the pairings that leave just one place alone, by the place."""
    check_web(web)
    near = near_masks(web)
    sizes = size_table(near)
    counts = count_table(near, sizes)
    everything = all_places(web)
    return tuple([
        counts[everything - (1 << place)] if _pairs_without(sizes, place) else 0
        for place in range(web[0])
    ])


def hindrance(web):
    """The first hindrance in lot order; None without one."""
    check_web(web)
    excesses = excess_table(web)
    found = [mask for mask in range(1, len(excesses)) if excesses[mask] >= 0]
    if not found:
        return None
    return in_lot_order([places_in(mask) for mask in found])[0]


def lumps(web):
    """The list of the lumps in lot order."""
    check_web(web)
    near = near_masks(web)
    joined = [False] + [_is_joined(near, mask) for mask in range(1, 1 << web[0])]
    firm = [joined[mask] and _stays_joined(joined, mask) for mask in range(len(joined))]
    return in_lot_order([places_in(mask) for mask in greatest_masks(firm)])


def odd_ears(web, place):
    """A building of the web from the place."""
    check_web(web)
    check_place(web, place)
    _check_near_full(web)
    return _built_along(web, near_pairing(web, place), place)


def is_odd_ears(web, place, value):
    """Whether any value is a building of the web from the place."""
    check_web(web)
    check_place(web, place)
    return _is_building(web, place, value)


def ears_along(web, pairing):
    """A building along the pairing, from the place that it leaves alone."""
    check_web(web)
    check_pairing(web, pairing)
    places = alone(web, pairing)
    if len(places) != 1:
        raise InvalidPairing("the pairing does not leave just one place alone")
    _check_near_full(web)
    return _built_along(web, pairing, places[0])


def is_ears_along(web, pairing, value):
    """Whether any value is a building along the pairing, from the place that it leaves alone."""
    check_web(web)
    check_pairing(web, pairing)
    places = alone(web, pairing)
    if len(places) != 1 or not _is_building(web, places[0], value):
        return False
    wanted = [tie for ear in value for tie in _ties_by_turns(ear, 1, len(ear) - 2)]
    return all([tie in pairing for tie in wanted])


def near_by_ears(web, place, ears, goal):
    """The pairing that leaves just the goal alone, as the building from the place tells it."""
    check_web(web)
    check_place(web, place)
    if not _is_building(web, place, ears):
        raise InvalidEars("no building of the web from the place")
    check_place(web, goal)
    ties = []
    staying = goal
    for ear in reversed(ears):
        ties.extend(_ties_beside(ear, staying))
        staying = _staying_behind(ear, staying)
    return tuple(sorted(ties))


def _pairs_without(sizes, place):
    """Whether all places but this one can be paired among one another."""
    return spare_of(sizes, len(sizes) - 1 - (1 << place)) == 0


def _is_joined(near, mask):
    """Whether the lot of the mask, which is not (), is joined."""
    return piece_mask(near, mask, mask.bit_length() - 1) == mask


def _stays_joined(joined, mask):
    """Whether the lot is of one place, or joined whichever one of its places is taken out."""
    places = places_in(mask)
    return len(places) == 1 or all([joined[mask - (1 << place)] for place in places])


def _check_near_full(web):
    """Raise NotBuilt unless the web is near-full."""
    lot = hindrance(web)
    if lot is not None:
        raise NotBuilt(lot)


def _built_along(web, pairing, place):
    """A building of a near-full web along the pairing that leaves just the place alone."""
    near = near_masks(web)
    sizes = size_table(near)
    mates = mates_in(web[0], pairing)
    there = [place]
    ears = []
    while len(there) < web[0]:
        inside, outside = _leading_out(web, there)
        rest = all_places(web) - (1 << outside)
        other_mates = mates_in(web[0], first_greatest(near, sizes, rest))
        # No tie of the pairing leads out of what is there, so the walk, which ends at the place,
        # comes there behind an even number of ties, and its inner places are mates.
        ear = [inside] + _until(walked(outside, mates, other_mates), there)
        ears.append(tuple(ear))
        there = there + ear[1:-1]
    used = [tie for ear in ears for tie in ties_along(ear)]
    return ears + [tie for tie in web[1] if tie not in used]


def _leading_out(web, there):
    """The ends of the first tie that leads out of the places, the one that is there first."""
    x, y = [tie for tie in web[1] if (tie[0] in there) != (tie[1] in there)][0]
    return (x, y) if x in there else (y, x)


def _until(row, there):
    """The row up to the first place that is there."""
    first = [at for at in range(len(row)) if row[at] in there][0]
    return row[:first + 1]


def _is_building(web, place, value):
    """Whether any value is a building of the web from the place."""
    n, ties = web
    if not is_list(value):
        return False
    there = [place]
    used = []
    for ear in value:
        if not _is_odd_ear(web, there, ear):
            return False
        fresh = ties_along(ear)
        if any([tie in used for tie in fresh]):
            return False
        used = used + fresh
        there = there + list(ear[1:-1])
    return len(there) == n and len(used) == len(ties)


def _is_odd_ear(web, there, value):
    """Whether any value is an odd ear of the lot of the places that are there."""
    n, ties = web
    if not is_tuple(value) or len(value) < 2 or len(value) % 2 == 1:
        return False
    if not all([fits_place(n, place) for place in value]):
        return False
    if not all([tie in ties for tie in ties_along(value)]):
        return False
    inside = list(value[1:-1])
    if len(set(inside)) < len(inside) or any([place in there for place in inside]):
        return False
    # Neighbours are tied, so the ends of an ear of one tie are unlike.
    return value[0] in there and value[-1] in there


def _ties_by_turns(ear, start, stop):
    """The ties of the places with the indexes start and start + 1, .., stop - 1 and stop."""
    return [tie_of(ear[at], ear[at + 1]) for at in range(start, stop, 2)]


def _ties_beside(ear, staying):
    """The ties of the ear that pair its inner places while this place stays alone."""
    last = len(ear) - 1
    if staying not in ear[1:-1]:
        return _ties_by_turns(ear, 1, last - 1)
    at = ear.index(staying)
    if at % 2 == 1:
        return _ties_by_turns(ear, 1, at - 1) + _ties_by_turns(ear, at + 1, last)
    return _ties_by_turns(ear, 0, at - 1) + _ties_by_turns(ear, at + 1, last - 1)


def _staying_behind(ear, staying):
    """The place that is to stay alone in what was there ahead of the ear."""
    if staying not in ear[1:-1]:
        return staying
    return ear[-1] if ear.index(staying) % 2 == 1 else ear[0]
