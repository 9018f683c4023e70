"""Lots as masks: integers that have the bit x exactly if the place x is in the lot.

Nothing here checks what it is passed.
"""


def mask_of(lot):
    """The mask of unlike places."""
    return sum([1 << place for place in lot])


def places_in(mask):
    """The lot of the mask."""
    return tuple([place for place in range(mask.bit_length()) if mask >> place & 1])


def all_places(web):
    """The mask of all places of the web."""
    return (1 << web[0]) - 1


def near_masks(web):
    """The list of the masks of the places that each place is tied with."""
    n, ties = web
    near = [0] * n
    for x, y in ties:
        near[x] |= 1 << y
        near[y] |= 1 << x
    return near


def piece_mask(near, mask, place):
    """The places to which ties within the mask lead from a place of it."""
    found = 1 << place
    waiting = found
    while waiting:
        last = waiting.bit_length() - 1
        fresh = near[last] & mask & ~found
        found |= fresh
        waiting = (waiting - (1 << last)) | fresh
    return found


def piece_masks(near, mask):
    """The list of the pieces of the web of the places of the mask, by their least places."""
    found = []
    while mask:
        least = (mask & -mask).bit_length() - 1
        piece = piece_mask(near, mask, least)
        found.append(piece)
        mask -= piece
    return found


def is_odd(mask):
    """Whether the number of places of the mask, of up to 12, is odd."""
    folded = mask ^ mask >> 8
    folded ^= folded >> 4
    folded ^= folded >> 2
    return (folded ^ folded >> 1) & 1 == 1


def odd_piece_masks(near, mask):
    """Those of the pieces that have an odd number of places."""
    return [piece for piece in piece_masks(near, mask) if is_odd(piece)]


def near_any(near, mask):
    """The places that are tied with one of the mask."""
    found = 0
    for place in places_in(mask):
        found |= near[place]
    return found


def sub_masks(mask):
    """The list of the masks of all lots of places of the mask, the mask itself first."""
    found = [mask]
    while found[-1]:
        found.append((found[-1] - 1) & mask)
    return found


def joined_choices(choices):
    """The list of the masks that have one mask out of each list of choices."""
    found = [0]
    for masks in choices:
        found = [mask | other for mask in found for other in masks]
    return found


def in_lot_order(lots):
    """The list of the lots, those of fewer places first."""
    return sorted(lots, key=lambda lot: (len(lot), lot))
