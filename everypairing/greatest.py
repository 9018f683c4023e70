"""Greatest pairings, longer rows, and lots that show that no pairing has more ties."""

from everypairing.checks import check_lot, check_pairing, check_web
from everypairing.checks import fits_place, is_tuple
from everypairing.errors import InvalidRow
from everypairing.masks import all_places, mask_of, near_masks, odd_piece_masks, places_in
from everypairing.rows import exchanged, mates_in, ties_along, walked
from everypairing.tables import first_greatest, holding_mask, open_mask, size_table, spare_of


def greatest_size(web):
    """The number of ties of a greatest pairing."""
    check_web(web)
    return size_table(near_masks(web))[-1]


def spare(web):
    """The number of places that are alone in a greatest pairing."""
    check_web(web)
    return spare_of(size_table(near_masks(web)), all_places(web))


def greatest_pairing(web):
    """The first greatest pairing, as Python orders tuples."""
    check_web(web)
    near = near_masks(web)
    return first_greatest(near, size_table(near), all_places(web))


def is_greatest(web, pairing):
    """Whether the pairing is a greatest one."""
    check_web(web)
    check_pairing(web, pairing)
    return len(pairing) == greatest_size(web)


def longer_row(web, pairing):
    """A longer row of the pairing; None if there is none."""
    check_web(web)
    check_pairing(web, pairing)
    mates = mates_in(web[0], pairing)
    greatest_mates = mates_in(web[0], greatest_pairing(web))
    for place in range(web[0]):
        if mates[place] is None:
            # Of an even number of places, the walk begins and ends with ties of the greatest one.
            row = walked(place, greatest_mates, mates)
            if len(row) % 2 == 0:
                return tuple(row)
    return None


def is_longer_row(web, pairing, value):
    """Whether any value is a longer row of the pairing."""
    check_web(web)
    check_pairing(web, pairing)
    n, ties = web
    if not is_tuple(value) or len(value) < 2 or len(value) % 2 == 1:
        return False
    if not all([fits_place(n, place) for place in value]) or len(set(value)) < len(value):
        return False
    mates = mates_in(n, pairing)
    if mates[value[0]] is not None or mates[value[-1]] is not None:
        return False
    row_ties = ties_along(value)
    # The tie at each odd index is to be of the pairing, the others are not.
    turns = [(tie in pairing) == (at % 2 == 1) for at, tie in enumerate(row_ties)]
    return all([tie in ties for tie in row_ties]) and all(turns)


def lengthened(web, pairing, row):
    """The pairing with the longer row exchanged."""
    check_web(web)
    check_pairing(web, pairing)
    if not is_longer_row(web, pairing, row):
        raise InvalidRow("no longer row of the pairing")
    return exchanged(pairing, ties_along(row))


def completed(web, pairing):
    """A greatest pairing in which no place is alone that is not alone in the pairing."""
    check_web(web)
    check_pairing(web, pairing)
    row = longer_row(web, pairing)
    while row is not None:
        pairing = exchanged(pairing, ties_along(row))
        row = longer_row(web, pairing)
    return pairing


def excess(web, lot):
    """The number of odd pieces without the lot, less the number of its places."""
    check_web(web)
    check_lot(web, lot)
    rest = all_places(web) - mask_of(lot)
    return len(odd_piece_masks(near_masks(web), rest)) - len(lot)


def spare_lot(web):
    """A lot whose excess is the spare: that of the holding places."""
    check_web(web)
    near = near_masks(web)
    return places_in(holding_mask(near, open_mask(size_table(near))))
