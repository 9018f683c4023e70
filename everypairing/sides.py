"""Two-sided webs: short lots, least covers, blocks, and ties parted into pairings."""

from everypairing.checks import check_lot, check_number, check_web
from everypairing.errors import NotShort, NotTwoSided
from everypairing.masks import all_places, in_lot_order, mask_of, near_any, near_masks
from everypairing.masks import piece_masks, places_in
from everypairing.parts import lean_masks


def sides(web):
    """The tuple (left, right) of the sides."""
    check_web(web)
    left = _left_mask(web)
    return (places_in(left), places_in(all_places(web) - left))


def partners(web, lot):
    """The lot of the places that are tied with one of the lot."""
    check_web(web)
    check_lot(web, lot)
    return places_in(near_any(near_masks(web), mask_of(lot)))


def is_cover(web, lot):
    """Whether the lot has an end of each tie."""
    check_web(web)
    check_lot(web, lot)
    return all([x in lot or y in lot for x, y in web[1]])


def greatest_lack(web):
    """The greatest lack of a lot of left places."""
    check_web(web)
    return _lack(near_masks(web), _ends(web)[0])


def short_ends(web):
    """The tuple of the short lot that all contain, and of the one that contains all."""
    check_web(web)
    least, greatest = _ends(web)
    return (places_in(least), places_in(greatest))


def short_lot_count(web):
    """How many short lots there are."""
    check_web(web)
    return len(_short_lots(web))


def nth_short_lot(web, number):
    """The short lot with this index in lot order; None if there are not so many."""
    check_web(web)
    check_number(number)
    found = _short_lots(web)
    return found[number] if number < len(found) else None


def is_short_lot(web, lot):
    """Whether the lot is a short lot."""
    check_web(web)
    check_lot(web, lot)
    left = _left_mask(web)
    mask = mask_of(lot)
    return mask & ~left == 0 and _lack(near_masks(web), mask) == greatest_lack(web)


def cover_by(web, lot):
    """The lot of the left places that are not in the short lot, and of its partners."""
    check_web(web)
    check_lot(web, lot)
    if not is_short_lot(web, lot):
        raise NotShort("no short lot")
    mask = mask_of(lot)
    return places_in((_left_mask(web) - mask) | near_any(near_masks(web), mask))


def least_cover(web):
    """A least cover: that of the least short lot."""
    check_web(web)
    return cover_by(web, short_ends(web)[0])


def blocks(web):
    """The tuple (head, blocks, leaning, tail)."""
    check_web(web)
    left = _left_mask(web)
    near = near_masks(web)
    _, opened, closed, lean = lean_masks(near)
    holding = all_places(web) - opened - closed
    found = piece_masks(lean, closed)
    # The open left places are the least short lot; the holding right ones are its partners (I5).
    head = (left & opened) | (holding & ~left)
    tail = (left & holding) | (opened & ~left)
    return (
        places_in(head), tuple([places_in(block) for block in found]),
        tuple(_leaning(near, left, found)), places_in(tail),
    )


def tie_parting(web):
    """A list of pairings, as few as can be, such that each tie is in exactly one."""
    check_web(web)
    _left_mask(web)
    n, ties = web
    many = max([len(places_in(mask)) for mask in near_masks(web)])
    # At each place its mates in the pairings with the indexes 0, 1, ..
    mates = [[None] * many for _ in range(n)]
    for x, y in ties:
        at = mates[x].index(None)
        # The row from y on by turns in the two pairings does not come to x, on the other side.
        mates = _turned(mates, y, at, mates[y].index(None))
        mates[x][at] = y
        mates[y][at] = x
    return [tuple([(x, y) for x, y in ties if mates[x][at] == y]) for at in range(many)]


def _left_mask(web):
    """The mask of the left places; NotTwoSided if the web is not two-sided."""
    trails = _trails(near_masks(web))
    for x, y in web[1]:
        if len(trails[x]) % 2 == len(trails[y]) % 2:
            raise NotTwoSided(_round_of(trails[x], trails[y]))
    return mask_of([place for place in trails if len(trails[place]) % 2 == 1])


def _trails(near):
    """The dict of the tuples of places from the least one of the piece to each place."""
    trails = {}
    for start in range(len(near)):
        if start not in trails:
            trails[start] = (start,)
            waiting = [start]
            while waiting:
                place = waiting.pop()
                for other in places_in(near[place]):
                    if other not in trails:
                        trails[other] = trails[place] + (other,)
                        waiting.append(other)
    return trails


def _round_of(trail, other_trail):
    """The round along two trails, from the last place that they share, and the tie of their ends."""
    shared = [place for place in trail if place in other_trail]
    return trail[len(shared) - 1:] + other_trail[:len(shared) - 1:-1]


def _lack(near, mask):
    """The number of the places of the mask less that of their partners."""
    return len(places_in(mask)) - len(places_in(near_any(near, mask)))


def _ends(web):
    """The masks of the least short lot, and of the one that contains all.

    These are the left places that are open, and those that are not holding (I5).
    """
    left = _left_mask(web)
    _, opened, closed, _ = lean_masks(near_masks(web))
    return (left & opened, left & (opened | closed))


def _leaning(near, left, found):
    """The ascending list of the tuples (i, j) such that the block i leans on the block j."""
    partners_of = [near_any(near, block & left) for block in found]
    return [
        (at, other) for at in range(len(found)) for other in range(len(found))
        if at != other and partners_of[at] & found[other]
    ]


def _short_lots(web):
    """The list of all short lots in lot order (I4)."""
    left = _left_mask(web)
    near = near_masks(web)
    _, opened, closed, lean = lean_masks(near)
    found = piece_masks(lean, closed)
    leaning = _leaning(near, left, found)
    masks = []
    for choice in range(1 << len(found)):
        # No block is chosen without those on which it leans.
        if all([choice >> other & 1 or not choice >> at & 1 for at, other in leaning]):
            chosen = [found[at] for at in places_in(choice)]
            masks.append((sum(chosen) | opened) & left)
    return in_lot_order([places_in(mask) for mask in masks])


def _turned(mates, start, one, other):
    """The mates with two pairings exchanged along the row from a place that lacks the other one."""
    row = [start]
    turn, other_turn = one, other
    while mates[row[-1]][turn] is not None:
        row.append(mates[row[-1]][turn])
        turn, other_turn = other_turn, turn
    changed = [list(places) for places in mates]
    for place in row:
        changed[place][one] = mates[place][other]
        changed[place][other] = mates[place][one]
    return changed
