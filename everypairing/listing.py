"""All greatest pairings of a web.

Nothing here checks what it is passed.
"""

from everypairing.finding import spare_of
from everypairing.masks import all_places, near_masks, places_in
from everypairing.parts import lean_masks


def greatest_pairings(web):
    """The ascending list of all greatest pairings."""
    mates, opened, _, lean = lean_masks(near_masks(web))
    spare = spare_of(all_places(web), mates)
    return list(_endings(lean, opened, all_places(web), spare, {}))


def _endings(near, opened, mask, spare, known):
    """The ascending tuple of the pairings of the mask that leave so many open places alone.

    known is a dict of what is told already; it gets what is told here.
    """
    if mask == 0:
        return ((),) if spare == 0 else ()
    if (mask, spare) not in known:
        place = (mask & -mask).bit_length() - 1
        rest = mask - (1 << place)
        found = []
        for mate in places_in(near[place] & rest):
            left = rest - (1 << mate)
            for ending in _endings(near, opened, left, spare, known):
                found.append(((place, mate),) + ending)
        if spare > 0 and opened >> place & 1:
            found.extend(_endings(near, opened, rest, spare - 1, known))
        known[(mask, spare)] = tuple(found)
    return known[(mask, spare)]
