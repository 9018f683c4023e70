"""Lots as masks: integers that have the bit x exactly if the place x is in the lot.

Nothing here checks what it is passed.
"""


def mask_of(lot):
    """The mask of unlike places."""
    return sum([1 << place for place in lot])


def places_in(mask):
    """The lot of the mask."""
    return tuple([place for place in range(mask.bit_length()) if mask >> place & 1])


def all_places(web):
    """The mask of all places of the web."""
    return (1 << web[0]) - 1


def near_masks(web):
    """The list of the masks of the places that each place is tied with."""
    n, ties = web
    near = [0] * n
    for x, y in ties:
        near[x] |= 1 << y
        near[y] |= 1 << x
    return near


def piece_mask(near, mask, place):
    """The places to which ties within the mask lead from a place of it."""
    found = 1 << place
    waiting = found
    while waiting:
        last = waiting.bit_length() - 1
        fresh = near[last] & mask & ~found
        found |= fresh
        waiting = (waiting - (1 << last)) | fresh
    return found


def piece_masks(near, mask):
    """The list of the pieces of the web of the places of the mask, by their least places."""
    found = []
    while mask:
        least = (mask & -mask).bit_length() - 1
        piece = piece_mask(near, mask, least)
        found.append(piece)
        mask -= piece
    return found


def is_odd(mask):
    """Whether the number of places of the mask is odd."""
    return len(places_in(mask)) % 2 == 1


def odd_piece_masks(near, mask):
    """Those of the pieces that have an odd number of places."""
    return [piece for piece in piece_masks(near, mask) if is_odd(piece)]


def greatest_masks(marked):
    """The masks that are marked and contained in no other marked one.

    marked is a list that has at each mask of the places whether it is marked.
    """
    above = [False] * len(marked)
    bits = [1 << place for place in range((len(marked) - 1).bit_length())]
    for mask in reversed(range(len(marked))):
        wider = [mask | bit for bit in bits if not mask & bit]
        above[mask] = any([marked[other] or above[other] for other in wider])
    return [mask for mask in range(len(marked)) if marked[mask] and not above[mask]]


def in_lot_order(lots):
    """The list of the lots, those of fewer places first."""
    return sorted(lots, key=lambda lot: (len(lot), lot))
