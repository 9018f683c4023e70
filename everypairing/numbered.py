"""All pairings of a web in one list, and those of one size in another one."""

from everypairing.checks import check_number, check_pairing, check_web
from everypairing.masks import all_places, mask_of, near_masks, places_in
from everypairing.tables import numbers_told, packed_of


def nth_pairing(web, number, size=None):
    """The pairing with this index among all, or among those of so many ties; None without one."""
    check_web(web)
    check_number(number)
    if size is not None:
        check_number(size)
    near = near_masks(web)
    known = {}
    left = all_places(web)
    if number >= _number_of(near, left, size, known):
        return None
    pairing = ()
    while size != 0:
        if size is None:
            # A pairing stands ahead of those that begin with it.
            if number == 0:
                return pairing
            number -= 1
        for tie, rest, count in _longer_by_one(web, near, left, size, known):
            if number < count:
                break
            number -= count
        pairing = pairing + (tie,)
        left = rest
        size = None if size is None else size - 1
    return pairing


def pairing_rank(web, pairing, sized=False):
    """The index of the pairing among all, or, if sized is True, among those of as many ties."""
    check_web(web)
    check_pairing(web, pairing)
    near = near_masks(web)
    known = {}
    left = all_places(web)
    size = len(pairing) if sized is True else None
    rank = 0
    for wanted in pairing:
        rank += 1 if size is None else 0
        for tie, rest, count in _longer_by_one(web, near, left, size, known):
            if tie == wanted:
                left = rest
            if tie < wanted:
                rank += count
        size = None if size is None else size - 1
    return rank


def next_pairing(web, pairing, sized=False):
    """The pairing behind it in the same list; None behind the last one."""
    rank = pairing_rank(web, pairing, sized)
    return nth_pairing(web, rank + 1, len(pairing) if sized is True else None)


def _number_of(near, mask, size, known):
    """How many pairings of the mask there are, or how many of so many ties."""
    counts = numbers_told(packed_of(near, mask, known))
    if size is None:
        return sum(counts)
    return counts[size] if size < len(counts) else 0


def _longer_by_one(web, near, left, size, known):
    """The list of the tuples (tie, rest, count) of the ties that can come next, ascending.

    left is the mask of the places that can still be paired; rest is that behind the tie, and
    count the number of the pairings that go on with the tie, or of those of so many ties.
    """
    found = []
    for x, y in web[1]:
        if left >> x & 1 and left >> y & 1:
            # Later ties have a first end above x.
            rest = left - mask_of([place for place in places_in(left) if place <= x]) - (1 << y)
            less = None if size is None else size - 1
            found.append(((x, y), rest, _number_of(near, rest, less, known)))
    return found
