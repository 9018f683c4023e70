"""How many pairings there are, and lots that show whether the full ones are odd or even."""

from everypairing.checks import check_lot, check_web
from everypairing.masks import all_places, is_odd, mask_of, near_masks, places_in
from everypairing.tables import numbers_told, packed_of


def pairing_counts(web):
    """The list of the numbers of pairings of 0, 1, 2, .. ties, up to those of a greatest one."""
    check_web(web)
    return numbers_told(packed_of(near_masks(web), all_places(web), {}))


def pairing_total(web):
    """How many pairings there are."""
    return sum(pairing_counts(web))


def greatest_count(web):
    """How many greatest pairings there are."""
    return pairing_counts(web)[-1]


def full_count(web):
    """How many full pairings there are."""
    counts = pairing_counts(web)
    return counts[-1] if 2 * (len(counts) - 1) == web[0] else 0


def is_even_lot(web, lot):
    """Whether the lot is an even lot."""
    check_web(web)
    check_lot(web, lot)
    mask = mask_of(lot)
    return mask != 0 and not any([is_odd(places & mask) for places in near_masks(web)])


def even_lot(web):
    """An even lot; None if there is none."""
    check_web(web)
    for places, lot in _reduced(web):
        if places == 0:
            return places_in(lot)
    return None


def odd_lots(web):
    """The list of the lots with which just one place, at its index, is tied an odd number of times.

    None if the number of full pairings is even.
    """
    check_web(web)
    rows = _reduced(web)
    if any([places == 0 for places, _ in rows]):
        return None
    # Behind the reduction each lot is tied just so with one place alone.
    return [places_in(lot) for _, lot in sorted(rows)]


def _reduced(web):
    """The list of tuples (places, lot) of masks, as many as the web has places.

    places are those that are tied with an odd number of places of the lot. At first the lots are
    those of one place. Then two of them are put together again and again, so that places that
    both have fall out, until each place stands in the places of one lot alone if it can.
    """
    rows = [(places, 1 << place) for place, places in enumerate(near_masks(web))]
    done = []
    for place in range(web[0]):
        having = [row for row in rows if row[0] >> place & 1]
        if having:
            chosen = having[0]
            rest = [row for row in rows if row != chosen]
            rows = [_put_together(row, chosen, place) for row in rest]
            done = [_put_together(row, chosen, place) for row in done] + [chosen]
    return done + rows


def _put_together(row, chosen, place):
    """The row, with the chosen one put to it if it has the place."""
    if not row[0] >> place & 1:
        return row
    return (row[0] ^ chosen[0], row[1] ^ chosen[1])
