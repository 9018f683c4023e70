"""The three lots of places: open, holding and closed ones."""

from everypairing.checks import check_pairing, check_place, check_web
from everypairing.errors import NotGreatest
from everypairing.greatest import longer_row
from everypairing.finding import ties_of
from everypairing.masks import all_places, near_masks, piece_masks, places_in
from everypairing.parts import pairing_leaving, three_masks
from everypairing.rows import mates_in


def lots(web):
    """The tuple of the lots of the open, the holding and the closed places."""
    check_web(web)
    _, opened, holding, closed = three_masks(near_masks(web), all_places(web))
    return (places_in(opened), places_in(holding), places_in(closed))


def open_pieces(web):
    """The ascending list of the pieces of the web of only the open places."""
    check_web(web)
    near = near_masks(web)
    opened = three_masks(near, all_places(web))[1]
    return [places_in(piece) for piece in piece_masks(near, opened)]


def leaving(web, place):
    """A greatest pairing that leaves the place alone; None if it is not open."""
    check_web(web)
    check_place(web, place)
    mates = pairing_leaving(near_masks(web), all_places(web), place)
    return None if mates is None else ties_of(mates)


def held(web, pairing):
    """The list of tuples of each holding place and the open piece of its mate."""
    check_web(web)
    check_pairing(web, pairing)
    row = longer_row(web, pairing)
    if row is not None:
        raise NotGreatest(row)
    mates = mates_in(web[0], pairing)
    piece_of = {place: piece for piece in open_pieces(web) for place in piece}
    return [(place, piece_of[mates[place]]) for place in lots(web)[1]]
