"""What losses spoil: greatest pairings that must have or leave something, and ties that are lost."""

from itertools import combinations

from everypairing.barriers import barrier_over
from everypairing.checks import MOST_LISTED
from everypairing.checks import check_at_most, check_count, check_lot, check_pairing, check_ties
from everypairing.checks import check_web, check_worths, fits_lot, fits_ties, is_tuple
from everypairing.errors import NotFull
from everypairing.finding import exchanged_mates, greatest_mates, paired_whole, spare_of, ties_of
from everypairing.greatest import excess, greatest_size, spare, spare_lot
from everypairing.masks import all_places, mask_of, near_masks, places_in
from everypairing.parts import pairs_whole


def greatest_holding(web, pairing):
    """A greatest pairing that has all ties of the pairing; None if there is none."""
    check_web(web)
    check_pairing(web, pairing)
    rest = all_places(web) - mask_of([place for tie in pairing for place in tie])
    others = ties_of(greatest_mates(near_masks(web), rest)[0])
    return _if_greatest(web, tuple(sorted(others + pairing)))


def greatest_leaving(web, lot):
    """A greatest pairing in which all places of the lot are alone; None if there is none."""
    check_web(web)
    check_lot(web, lot)
    rest = all_places(web) - mask_of(lot)
    return _if_greatest(web, ties_of(greatest_mates(near_masks(web), rest)[0]))


def leaving_lots(web):
    """The list, in lot order, of the lots of all places that a greatest pairing leaves alone."""
    check_web(web)
    near = near_masks(web)
    everything = all_places(web)
    mates = greatest_mates(near, everything)[0]
    return _lots_from(near, everything, mates, (), spare_of(everything, mates))


def best_leaving(web, worths):
    """The tuple of the greatest sum of worths of such a lot, and a lot that has it."""
    check_web(web)
    check_worths(web, worths)
    near = near_masks(web)
    mask = all_places(web)
    mates, ways = greatest_mates(near, mask)
    lot = []
    while ways:
        # Taking the greatest one that still fits leads to the greatest sum (N2).
        best = min(ways, key=lambda place: (-worths[place], place))
        lot.append(best)
        mask -= 1 << best
        mates, ways = paired_whole(near, mask, exchanged_mates(mates, ways[best]))
    return (sum([worths[place] for place in lot]), tuple(sorted(lot)))


def lost(web, ties):
    """How many ties fewer a greatest pairing has without the ties."""
    check_web(web)
    check_ties(web, ties)
    return greatest_size(web) - greatest_size(_less_ties(web, ties))


def least_loss(web):
    """The tuple of as few ties as can be that are a loss, and a lot that shows it."""
    check_web(web)
    check_at_most(web[0], MOST_LISTED)
    n, ties = web
    if ties == ():
        return None
    inside = _ties_inside(near_masks(web))
    wanted = spare(web) + 2
    best = None
    known = {}
    # With many places in the lot too few are left for the odd parts that it takes.
    for size in range((n - wanted) // 2 + 1):
        for lot in combinations(range(n), size):
            rest = all_places(web) - mask_of(lot)
            kept, parts = _best_parts(inside, rest, size + wanted, known)
            if best is None or inside[rest] - kept < best[0]:
                best = (inside[rest] - kept, parts, lot)
    _, parts, lot = best
    return (tuple([tie for tie in ties if _parted(parts, tie)]), lot)


def is_loss(web, value):
    """Whether any value is a tuple of ties that are a loss and a lot that shows it."""
    check_web(web)
    if not is_tuple(value) or len(value) != 2:
        return False
    ties, lot = value
    if not fits_ties(web, ties) or not fits_lot(web[0], lot):
        return False
    return excess(_less_ties(web, ties), lot) > spare(web)


def unextended(web, count):
    """The first pairing of so many ties that lies in no full one; None if each lies in one."""
    check_web(web)
    check_count(web, count)
    _check_full(web)
    check_at_most(web[0], MOST_LISTED)
    return _first_unextended(web[1], near_masks(web), all_places(web), count, {})


def unfull_without_two(web):
    """The first two places without which no full pairing is left, and a lot that shows it."""
    check_web(web)
    _check_full(web)
    check_at_most(web[0], MOST_LISTED)
    for x, y in combinations(range(web[0]), 2):
        # No full pairing is left exactly if a barrier has both.
        lot = barrier_over(web, (x, y))
        if lot is not None:
            return (x, y, lot)
    return None


def _if_greatest(web, pairing):
    """The pairing if it is a greatest one; None if not."""
    return pairing if len(pairing) == greatest_size(web) else None


def _lots_from(near, mask, mates, lot, many):
    """The ascending list of the lots that begin with the lot, with so many places more.

    mask has the places that are not in the lot, of which mates is a greatest pairing; with each
    place of which some greatest pairing leaves it alone the lot still lies in one of these lots.
    """
    if many == 0:
        return [lot]
    ways = paired_whole(near, mask, mates)[1]
    fitting = [place for place in sorted(ways) if lot == () or place > lot[-1]]
    if many == 1:
        return [lot + (place,) for place in fitting]
    found = []
    # The last places of a lot must be among those that fit here, so enough of them must follow.
    for place in fitting[:len(fitting) - many + 1]:
        fresh = exchanged_mates(mates, ways[place])
        found.extend(_lots_from(near, mask - (1 << place), fresh, lot + (place,), many - 1))
    return found


def _less_ties(web, ties):
    """The web without the ties."""
    return (web[0], tuple([tie for tie in web[1] if tie not in ties]))


def _ties_inside(near):
    """The list of the numbers of the ties between places of each mask."""
    inside = [0]
    for top, mates in enumerate(near):
        for mask in range(1 << top):
            inside.append(inside[mask] + len(places_in(mates & mask)))
    return inside


def _best_parts(inside, mask, many, known):
    """The tuple (kept, parts) of the best way to part the mask in so many odd parts.

    kept is the number of the ties within parts, parts the tuple of their masks. inside has the
    number of the ties within each mask; known is a dict of what is told already.
    """
    if many == 1:
        return (inside[mask], (mask,))
    if (mask, many) not in known:
        best = None
        for part in _odd_parts(mask, len(places_in(mask)) - many + 1):
            kept, parts = _best_parts(inside, mask - part, many - 1, known)
            if best is None or kept + inside[part] > best[0]:
                best = (kept + inside[part], parts + (part,))
        known[(mask, many)] = best
    return known[(mask, many)]


def _odd_parts(mask, most):
    """The list of the masks of an odd number of places, at most so many, with the least one."""
    first = (mask & -mask).bit_length() - 1
    others = list(places_in(mask - (1 << first)))
    found = []
    for size in range(0, most, 2):
        for added in combinations(others, size):
            found.append(mask_of(added) | 1 << first)
    return found


def _parted(parts, tie):
    """Whether the ends of the tie are in unlike ones of the parts."""
    ends = mask_of(tie)
    return len([part for part in parts if part & ends not in (0, ends)]) == 2


def _first_unextended(ties, near, mask, count, whole):
    """The first pairing of so many of the ties that no full pairing of the mask has; perhaps None.

    The ties are those that may be taken, in their sequence. whole is a dict that has what is
    told already of whether the places of a mask have a full pairing.
    """
    if count == 0:
        if mask not in whole:
            whole[mask] = pairs_whole(near, mask)
        return None if whole[mask] else ()
    for at, tie in enumerate(ties):
        ends = mask_of(tie)
        if mask & ends == ends:
            found = _first_unextended(ties[at + 1:], near, mask - ends, count - 1, whole)
            if found is not None:
                return (tie,) + found
    return None


def _check_full(web):
    """Raise NotFull if the web has no full pairing."""
    if spare(web) > 0:
        raise NotFull(spare_lot(web))
