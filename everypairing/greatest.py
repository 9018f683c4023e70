"""Greatest pairings, longer rows, and lots that show that no pairing has more ties."""

from everypairing.checks import check_lot, check_pairing, check_web
from everypairing.checks import fits_place, is_tuple
from everypairing.errors import InvalidRow
from everypairing.finding import greatest_mates, longer_row_of, paired_whole, spare_of, ties_of
from everypairing.masks import all_places, mask_of, near_masks, odd_piece_masks, places_in
from everypairing.parts import three_masks
from everypairing.rows import exchanged, mates_in, ties_along


def greatest_size(web):
    """The number of ties of a greatest pairing."""
    check_web(web)
    return (web[0] - spare(web)) // 2


def spare(web):
    """The number of places that are alone in a greatest pairing."""
    check_web(web)
    everything = all_places(web)
    return spare_of(everything, greatest_mates(near_masks(web), everything)[0])


def greatest_pairing(web):
    """A greatest pairing."""
    check_web(web)
    return ties_of(greatest_mates(near_masks(web), all_places(web))[0])


def is_greatest(web, pairing):
    """Whether the pairing is a greatest one."""
    check_web(web)
    check_pairing(web, pairing)
    return len(pairing) == greatest_size(web)


def longer_row(web, pairing):
    """A longer row of the pairing; None if there is none."""
    check_web(web)
    check_pairing(web, pairing)
    return longer_row_of(near_masks(web), all_places(web), mates_in(web[0], pairing))


def is_longer_row(web, pairing, value):
    """Whether any value is a longer row of the pairing."""
    check_web(web)
    check_pairing(web, pairing)
    n, ties = web
    if not is_tuple(value) or len(value) < 2 or len(value) % 2 == 1:
        return False
    if not all([fits_place(n, place) for place in value]) or len(set(value)) < len(value):
        return False
    mates = mates_in(n, pairing)
    if mates[value[0]] is not None or mates[value[-1]] is not None:
        return False
    row_ties = ties_along(value)
    # The tie at each odd index is to be of the pairing, the others are not.
    turns = [(tie in pairing) == (at % 2 == 1) for at, tie in enumerate(row_ties)]
    return all([tie in ties for tie in row_ties]) and all(turns)


def lengthened(web, pairing, row):
    """The pairing with the longer row exchanged."""
    check_web(web)
    check_pairing(web, pairing)
    if not is_longer_row(web, pairing, row):
        raise InvalidRow("no longer row of the pairing")
    return exchanged(pairing, ties_along(row))


def completed(web, pairing):
    """A greatest pairing in which no place is alone that is not alone in the pairing."""
    check_web(web)
    check_pairing(web, pairing)
    mates = mates_in(web[0], pairing)
    return ties_of(paired_whole(near_masks(web), all_places(web), mates)[0])


def excess(web, lot):
    """The number of odd pieces without the lot, less the number of its places."""
    check_web(web)
    check_lot(web, lot)
    rest = all_places(web) - mask_of(lot)
    return len(odd_piece_masks(near_masks(web), rest)) - len(lot)


def spare_lot(web):
    """A lot whose excess is the spare: that of the holding places."""
    check_web(web)
    return places_in(three_masks(near_masks(web), all_places(web))[2])
