"""A game of two that lengthen a walk by turns; greatest pairings tell who wins, and how."""

from everypairing.checks import check_web, fits_place, is_tuple
from everypairing.errors import InvalidWalk
from everypairing.finding import exchanged_mates, greatest_mates, ties_of
from everypairing.masks import all_places, mask_of, near_masks, places_in
from everypairing.parts import three_masks
from everypairing.rows import ties_along


def mover_wins(web, walk):
    """Whether the mover can win, whatever the other one does."""
    check_web(web)
    _check_walk(web, walk)
    ways = greatest_mates(near_masks(web), _mask_with_last(web, walk))[1]
    return walk[-1] not in ways


def winning_moves(web, walk):
    """The ascending list of the places with which the mover can go on and win."""
    check_web(web)
    _check_walk(web, walk)
    near = near_masks(web)
    rest = all_places(web) - mask_of(walk)
    return list(places_in(near[walk[-1]] & three_masks(near, rest)[1]))


def winning_starts(web):
    """The ascending list of the places from which who is not the mover can win."""
    check_web(web)
    return list(places_in(three_masks(near_masks(web), all_places(web))[1]))


def guide(web, walk):
    """A greatest pairing of what is left, with the last place exactly if the mover can win."""
    check_web(web)
    _check_walk(web, walk)
    mates, ways = greatest_mates(near_masks(web), _mask_with_last(web, walk))
    last = walk[-1]
    return ties_of(exchanged_mates(mates, ways[last]) if last in ways else mates)


def _mask_with_last(web, walk):
    """The mask of the places outside of the walk, and of its last one."""
    return all_places(web) - mask_of(walk[:-1])


def _check_walk(web, walk):
    """Raise InvalidWalk unless they are unlike places, one or more, each tied with the next one."""
    n, ties = web
    if not is_tuple(walk) or walk == () or not all([fits_place(n, place) for place in walk]):
        raise InvalidWalk("no tuple of one or more places")
    if len(set(walk)) < len(walk) or not all([tie in ties for tie in ties_along(walk)]):
        raise InvalidWalk("a place is there twice, or not tied with the next one")
