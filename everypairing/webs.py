"""Webs and pairings, their pieces and their texts."""

from everypairing.checks import MOST_PLACES
from everypairing.checks import check_at_most, check_lot, check_pairing, check_place
from everypairing.checks import check_tie, check_web
from everypairing.checks import fits_ends, fits_pairing, fits_place, fits_web
from everypairing.checks import is_text, is_tuple
from everypairing.errors import InvalidLot, InvalidRow, InvalidText, InvalidTie
from everypairing.masks import all_places, mask_of, near_masks
from everypairing.masks import odd_piece_masks, piece_masks, places_in
from everypairing.rows import mates_in, tie_of
from everypairing.texts import possible_ties, told_web, web_part_text


def is_web(value):
    """Whether any value is a web."""
    return fits_web(value)


def is_pairing(web, value):
    """Whether any value is a pairing of the web."""
    check_web(web)
    return fits_pairing(web, value)


def mate(web, pairing, place):
    """The mate of the place in the pairing; None if it is alone."""
    check_web(web)
    check_pairing(web, pairing)
    check_place(web, place)
    return mates_in(web[0], pairing)[place]


def alone(web, pairing):
    """The lot of the places that are alone in the pairing."""
    check_web(web)
    check_pairing(web, pairing)
    mates = mates_in(web[0], pairing)
    return tuple([place for place in range(web[0]) if mates[place] is None])


def pieces(web, lot=()):
    """The ascending list of the pieces without the lot."""
    check_web(web)
    check_lot(web, lot)
    rest = all_places(web) - mask_of(lot)
    return [places_in(piece) for piece in piece_masks(near_masks(web), rest)]


def odd_pieces(web, lot=()):
    """The ascending list of the pieces of an odd number of places without the lot."""
    check_web(web)
    check_lot(web, lot)
    rest = all_places(web) - mask_of(lot)
    return [places_in(piece) for piece in odd_piece_masks(near_masks(web), rest)]


def inner(web, lot):
    """The web of the places of the lot, numbered by their indexes in it."""
    check_web(web)
    check_lot(web, lot)
    if lot == ():
        raise InvalidLot("a web has one place or more")
    kept = [(x, y) for x, y in web[1] if x in lot and y in lot]
    return (len(lot), tuple([(lot.index(x), lot.index(y)) for x, y in kept]))


def renamed(web, row):
    """The web in which the place x is called row[x]."""
    check_web(web)
    n, ties = web
    if not is_tuple(row) or not all([fits_place(n, place) for place in row]):
        raise InvalidRow("no tuple of places")
    if sorted(row) != list(range(n)):
        raise InvalidRow("not each place once")
    return (n, tuple(sorted([tie_of(row[x], row[y]) for x, y in ties])))


def beside(web, other_web):
    """The two webs as one, the places of the other one behind those of the first."""
    check_web(web)
    check_web(other_web)
    n, ties = web
    other_n, other_ties = other_web
    check_at_most(n + other_n, MOST_PLACES)
    return (n + other_n, ties + tuple([(x + n, y + n) for x, y in other_ties]))


def with_tie(web, tie):
    """The web with one tie more."""
    check_web(web)
    n, ties = web
    if not fits_ends(n, tie) or tie in ties:
        raise InvalidTie("no tie that the web could get")
    return (n, tuple(sorted(ties + (tie,))))


def less_tie(web, tie):
    """The web without the tie."""
    check_web(web)
    check_tie(web, tie)
    n, ties = web
    return (n, tuple([other for other in ties if other != tie]))


def mirrored(web):
    """The web in which just those unlike places are tied that are not tied in this one."""
    check_web(web)
    n, ties = web
    return (n, tuple([tie for tie in possible_ties(n) if tie not in ties]))


def web_text(web):
    """The text of the web."""
    check_web(web)
    return web_part_text(web)


def web_told(text):
    """The web with this text."""
    if not is_text(text):
        raise InvalidText(0)
    return told_web(text, "")[0]
