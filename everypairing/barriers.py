"""Barriers: lots that show how many places each pairing must leave alone."""

from everypairing.checks import check_at_most, check_lot, check_pairing, check_web
from everypairing.errors import NotBarrier, NotFull, NotGreatest
from everypairing.greatest import excess, longer_row, spare, spare_lot
from everypairing.masks import all_places, greatest_masks, in_lot_order, mask_of
from everypairing.masks import near_masks, places_in
from everypairing.rows import mates_in
from everypairing.shares_of_ties import lean_pieces
from everypairing.tables import excess_table, open_mask, size_table, spare_of
from everypairing.webs import odd_pieces

MOST_LISTED = 8


def is_barrier(web, lot):
    """Whether the excess of the lot is the spare of the web."""
    check_web(web)
    check_lot(web, lot)
    return excess(web, lot) == spare(web)


def barriers(web):
    """The list of all barriers in lot order."""
    check_web(web)
    check_at_most(web[0], MOST_LISTED)
    return in_lot_order([places_in(mask) for mask in _barrier_masks(web)])


def barrier_count(web):
    """How many barriers there are."""
    check_web(web)
    return len(_barrier_masks(web))


def barriers_over(web, lot):
    """How many barriers contain the lot."""
    check_web(web)
    check_lot(web, lot)
    wanted = mask_of(lot)
    return len([mask for mask in _barrier_masks(web) if mask & wanted == wanted])


def greatest_barriers(web):
    """The list, in lot order, of the barriers that are contained in no other barrier."""
    check_web(web)
    # No excess is above the spare, so the lots of the greatest excess are the barriers.
    excesses = excess_table(web)
    highest = max(excesses)
    found = greatest_masks([number == highest for number in excesses])
    return in_lot_order([places_in(mask) for mask in found])


def is_dear(web, lot):
    """Whether the spare without the lot is that of the web and the number of its places."""
    check_web(web)
    check_lot(web, lot)
    return _is_dear(size_table(near_masks(web)), mask_of(lot))


def barrier_over(web, lot):
    """The first greatest barrier, in lot order, that contains the lot; None if none does."""
    check_web(web)
    check_lot(web, lot)
    for barrier in greatest_barriers(web):
        if all([place in barrier for place in lot]):
            return barrier
    return None


def barrier_core(web):
    """The lot of the places that all greatest barriers have in common."""
    check_web(web)
    core = all_places(web)
    for barrier in greatest_barriers(web):
        core &= mask_of(barrier)
    return places_in(core)


def place_classes(web):
    """The ascending list of the classes of places that are barred together."""
    check_web(web)
    sizes = size_table(near_masks(web))
    if spare_of(sizes, all_places(web)) > 0:
        raise NotFull(spare_lot(web))
    classes = []
    for piece in lean_pieces(web):
        left = list(piece)
        while left:
            # To be barred together is a likeness, so the first place tells its whole class.
            first = left[0]
            alike = [place for place in left if _is_dear(sizes, (1 << first) | (1 << place))]
            classes.append(tuple(alike))
            left = [place for place in left if place not in alike]
    return sorted(classes)


def pieces_left(web, lot):
    """The list of the odd pieces without the lot that some greatest pairing does not meet."""
    check_web(web)
    check_lot(web, lot)
    _check_barrier(web, lot)
    opened = open_mask(size_table(near_masks(web)))
    return [piece for piece in odd_pieces(web, lot) if mask_of(piece) & opened]


def met_pieces(web, lot, pairing):
    """The list of tuples of each place of the barrier and the odd piece that has its mate."""
    check_web(web)
    check_lot(web, lot)
    check_pairing(web, pairing)
    _check_barrier(web, lot)
    row = longer_row(web, pairing)
    if row is not None:
        raise NotGreatest(row)
    mates = mates_in(web[0], pairing)
    piece_of = {place: piece for piece in odd_pieces(web, lot) for place in piece}
    return [(place, piece_of[mates[place]]) for place in lot]


def _barrier_masks(web):
    """The ascending list of the masks of all barriers."""
    excesses = excess_table(web)
    highest = max(excesses)
    return [mask for mask in range(len(excesses)) if excesses[mask] == highest]


def _is_dear(sizes, mask):
    """Whether the lot of the mask is dear: just so if some barrier contains it."""
    everything = len(sizes) - 1
    return spare_of(sizes, everything - mask) == spare_of(sizes, everything) + len(places_in(mask))


def _check_barrier(web, lot):
    """Raise NotBarrier unless the lot is a barrier."""
    number = excess(web, lot)
    if number != spare(web):
        raise NotBarrier(number)
