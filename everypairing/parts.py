"""The three lots of a web as masks, and which ties stand in greatest pairings.

Nothing here checks what it is passed.
"""

from everypairing.finding import exchanged_mates, freed, greatest_mates, grown
from everypairing.masks import mask_of, near_any, piece_mask, places_in


def three_masks(near, mask):
    """The tuple (mates, opened, holding, closed) of the web of the places of the mask.

    mates is a greatest pairing, the others are the masks of its three lots.
    """
    mates, ways = greatest_mates(near, mask)
    opened = mask_of(ways)
    holding = near_any(near, opened) & mask & ~opened
    return (mates, opened, holding, mask - opened - holding)


def without_one(near, mask, mates, place):
    """The mask of the places without which, and the place, the mask is paired whole.

    mates is a full pairing of the mask.
    """
    rest = mask - (1 << place)
    return mask_of(grown(near, rest, freed(mates, (place,)), mates[place])[1])


def lean_masks(near):
    """The tuple (mates, opened, closed, lean) of the web of all places.

    mates is a greatest pairing; lean has, at each place, the mask of the places with which it
    is tied by a tie that stands in some greatest pairing (D3).
    """
    mates, opened, holding, closed = three_masks(near, (1 << len(near)) - 1)
    lean = list(near)
    for place in places_in(holding):
        lean[place] &= opened
    for place in places_in(closed):
        lean[place] &= without_one(near, closed, mates, place)
    return (mates, opened, closed, lean)


def pairing_leaving(near, mask, place):
    """The mates of a greatest pairing of the mask that leaves the place alone; None without one."""
    mates, ways = greatest_mates(near, mask)
    if place not in ways:
        return None
    return exchanged_mates(mates, ways[place])


def is_covered_mask(near, mask):
    """Whether the web of the places of the mask is covered; near has ties within it alone."""
    if piece_mask(near, mask, mask.bit_length() - 1) != mask:
        return False
    mates, ways = greatest_mates(near, mask)
    # A web of one place is joined, too, but has no full pairing.
    if ways:
        return False
    return all([
        near[place] & ~without_one(near, mask, mates, place) == 0 for place in places_in(mask)
    ])


def pairs_whole(near, mask):
    """Whether the places of the mask have a full pairing."""
    return greatest_mates(near, mask)[1] == {}
