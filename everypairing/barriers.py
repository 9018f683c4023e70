"""Barriers: lots that show how many places each pairing must leave alone."""

from everypairing.checks import MOST_LISTED
from everypairing.checks import check_at_most, check_lot, check_pairing, check_web
from everypairing.errors import NotBarrier, NotFull, NotGreatest
from everypairing.finding import freed, greatest_mates, paired_whole, spare_of
from everypairing.greatest import excess, longer_row, spare, spare_lot
from everypairing.masks import all_places, in_lot_order, joined_choices, mask_of, near_any
from everypairing.masks import near_masks, odd_piece_masks, piece_masks, places_in, sub_masks
from everypairing.parts import lean_masks, three_masks, without_one
from everypairing.rows import mates_in
from everypairing.webs import odd_pieces


def is_barrier(web, lot):
    """Whether the excess of the lot is the spare of the web."""
    check_web(web)
    check_lot(web, lot)
    return excess(web, lot) == spare(web)


def barriers(web):
    """The list of all barriers in lot order."""
    check_web(web)
    check_at_most(web[0], MOST_LISTED)
    found = joined_choices(_barrier_choices(near_masks(web), all_places(web)))
    return in_lot_order([places_in(mask) for mask in found])


def barrier_count(web):
    """How many barriers there are."""
    check_web(web)
    return _barrier_number(near_masks(web), all_places(web))


def barriers_over(web, lot):
    """How many barriers contain the lot."""
    check_web(web)
    check_lot(web, lot)
    near = near_masks(web)
    rest = _without_dear(near, lot)
    # The barriers that contain a dear lot are those of the web without it, and the lot.
    return 0 if rest is None else _barrier_number(near, rest)


def greatest_barriers(web):
    """The list, in lot order, of the barriers that are contained in no other barrier."""
    check_web(web)
    found = joined_choices(_greatest_choices(near_masks(web), all_places(web)))
    return in_lot_order([places_in(mask) for mask in found])


def is_dear(web, lot):
    """Whether the spare without the lot is that of the web and the number of its places."""
    check_web(web)
    check_lot(web, lot)
    return _without_dear(near_masks(web), lot) is not None


def barrier_over(web, lot):
    """The first greatest barrier, in lot order, that contains the lot; None if none does."""
    check_web(web)
    check_lot(web, lot)
    near = near_masks(web)
    rest = _without_dear(near, lot)
    if rest is None:
        return None
    # Of lots of unlike pieces put together, the first one has the first one of each piece.
    firsts = [_first_lot(choices) for choices in _greatest_choices(near, rest)]
    return tuple(sorted([place for part in firsts for place in part] + list(lot)))


def barrier_core(web):
    """The lot of the places that all greatest barriers have in common: the holding ones (E2)."""
    check_web(web)
    return spare_lot(web)


def place_classes(web):
    """The ascending list of the classes of places that are barred together."""
    check_web(web)
    near = near_masks(web)
    mates, opened, closed, lean = lean_masks(near)
    if opened:
        raise NotFull(spare_lot(web))
    classes = []
    for piece in piece_masks(lean, closed):
        left = piece
        while left:
            # To be barred together is a likeness, so the first place tells its whole class.
            first = places_in(left)[0]
            alike = left & ~without_one(near, closed, mates, first)
            classes.append(places_in(alike))
            left -= alike
    return sorted(classes)


def pieces_left(web, lot):
    """The list of the odd pieces without the lot that some greatest pairing does not meet."""
    check_web(web)
    check_lot(web, lot)
    _check_barrier(web, lot)
    opened = three_masks(near_masks(web), all_places(web))[1]
    return [piece for piece in odd_pieces(web, lot) if mask_of(piece) & opened]


def met_pieces(web, lot, pairing):
    """The list of tuples of each place of the barrier and the odd piece that has its mate."""
    check_web(web)
    check_lot(web, lot)
    check_pairing(web, pairing)
    _check_barrier(web, lot)
    row = longer_row(web, pairing)
    if row is not None:
        raise NotGreatest(row)
    mates = mates_in(web[0], pairing)
    piece_of = {place: piece for piece in odd_pieces(web, lot) for place in piece}
    return [(place, piece_of[mates[place]]) for place in lot]


def _without_dear(near, lot):
    """The mask of the places without the lot; None if it is not dear."""
    everything = (1 << len(near)) - 1
    rest = everything - mask_of(lot)
    mates = greatest_mates(near, everything)[0]
    found = paired_whole(near, rest, freed(mates, lot))[0]
    if spare_of(rest, found) < spare_of(everything, mates) + len(lot):
        return None
    return rest


def _greatest_choices(near, mask):
    """The list of lists of masks: the greatest barriers have just one mask out of each list.

    They are the lots of the holding places with, for each piece of the closed ones, a greatest
    barrier of this piece.
    """
    mates, _, holding, closed = three_masks(near, mask)
    known = {}
    pieces = piece_masks(near, closed)
    return [[holding]] + [_greatest_of_full(near, piece, mates, known) for piece in pieces]


def _greatest_of_full(near, mask, mates, known):
    """The list of the masks of the greatest barriers of a joined lot that mates pairs whole.

    known is a dict of such lists that are told already; it gets that of the mask.
    """
    if mask not in known:
        found = {}
        for place in places_in(mask):
            for barrier in _greatest_with(near, mask, mates, place, known):
                found[barrier] = True
        known[mask] = list(found)
    return known[mask]


def _greatest_with(near, mask, mates, place, known):
    """The list of those, of a joined lot that mates pairs whole, that have the place.

    Without it they are just the greatest barriers of the other places.
    """
    opened = without_one(near, mask, mates, place)
    rest = mask - (1 << place) - opened
    holding = near_any(near, opened) & rest
    parts = piece_masks(near, rest - holding)
    choices = [_greatest_of_full(near, part, mates, known) for part in parts]
    return joined_choices([[holding | 1 << place]] + choices)


def _barrier_choices(near, mask):
    """The list of lists of masks: the barriers have just one mask out of each list."""
    choices = []
    for piece in piece_masks(near, mask):
        mates = greatest_mates(near, piece)[0]
        wanted = spare_of(piece, mates)
        wide = joined_choices(_greatest_choices(near, piece))
        parts = {part: True for barrier in wide for part in sub_masks(barrier)}
        choices.append([part for part in parts if _excess_of(near, piece, part) == wanted])
    return choices


def _barrier_number(near, mask):
    """How many barriers the web of the places of the mask has."""
    number = 1
    for masks in _barrier_choices(near, mask):
        number *= len(masks)
    return number


def _excess_of(near, piece, part):
    """The excess of the part in the web of the places of the piece."""
    return len(odd_piece_masks(near, piece - part)) - len(places_in(part))


def _first_lot(masks):
    """The first lot, in lot order, of the masks."""
    return in_lot_order([places_in(mask) for mask in masks])[0]


def _check_barrier(web, lot):
    """Raise NotBarrier unless the lot is a barrier."""
    number = excess(web, lot)
    if number != spare(web):
        raise NotBarrier(number)
