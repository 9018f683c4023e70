"""Greatest pairings of the places of a mask, found along rows that make pairings longer.

A pairing is here the list of the mates of all places, None for a place that is alone. A *way*
of a pairing is a tuple of an odd number of unlike places, the first one alone, neighbours tied,
by turns by a tie that is not of the pairing and by one that is: so if it is exchanged, its last
place is alone in the place of its first one. Nothing here checks what it is passed.
"""

from everypairing.masks import mask_of, places_in


def grown(near, mask, mates, root):
    """What ways from a place that is alone lead to: the tuple (row, ways, met).

    row is a longer row that begins with the root; None if there is none. Then ways is the dict
    of a way to each place to which one leads, and met the mask of all places on them: no longer
    row leads through these, whatever is paired among the other ones.
    """
    ways = {root: (root,)}
    marks = {root: 1 << root}
    outer = 1 << root
    inner = 0
    waiting = [root]
    while waiting and outer != mask:
        place = waiting.pop()
        left = near[place] & mask & ~inner
        while left:
            other = left.bit_length() - 1
            left -= 1 << other
            if outer >> other & 1:
                fresh = _joined_ways(ways, marks, outer, place, other)
                for passed in fresh:
                    ways[passed] = fresh[passed]
                    marks[passed] = mask_of(fresh[passed])
                    outer |= 1 << passed
                    inner -= 1 << passed
                    waiting.append(passed)
            elif not inner >> other & 1:
                mate = mates[other]
                if mate is None:
                    return (ways[place] + (other,), ways, outer | inner)
                inner |= 1 << other
                outer |= 1 << mate
                ways[mate] = ways[place] + (other, mate)
                marks[mate] = marks[place] | 1 << other | 1 << mate
                waiting.append(mate)
    return (None, ways, outer | inner)


def _joined_ways(ways, marks, outer, place, other):
    """The dict of the new ways that the tie of the ends of two ways makes.

    They lead to the places, on one of the two alone, to which no way has led: along the other
    one, over the tie and back.
    """
    found = {}
    for end, start in ((place, other), (other, place)):
        fresh = marks[end] & ~outer & ~marks[start]
        if fresh:
            back = ways[end][::-1]
            for at, passed in enumerate(back):
                if fresh >> passed & 1:
                    found[passed] = ways[start] + back[:at + 1]
    return found


def paired_whole(near, mask, mates):
    """The tuple (mates, ways) of a greatest pairing of the places of the mask.

    It is made from the pairing that is passed, and leaves no place of the mask alone that this
    one does not. ways is the dict of a way of it to each place that some greatest pairing leaves
    alone, from a place that this one leaves alone.
    """
    free = mask_of([place for place in places_in(mask) if mates[place] is None])
    all_ways = {}
    while free:
        root = (free & -free).bit_length() - 1
        free -= 1 << root
        beside = near[root] & free
        if beside:
            other = (beside & -beside).bit_length() - 1
            free -= 1 << other
            mates = exchanged_mates(mates, (root, other))
            continue
        row, ways, met = grown(near, mask, mates, root)
        if row is None:
            all_ways.update(ways)
            mask &= ~met
        else:
            free -= 1 << row[-1]
            mates = exchanged_mates(mates, row)
    return (mates, all_ways)


def longer_row_of(near, mask, mates):
    """A longer row of the pairing within the mask; None if there is none."""
    for place in places_in(mask):
        if mates[place] is None:
            row, _, met = grown(near, mask, mates, place)
            if row is not None:
                return row
            mask &= ~met
    return None


def exchanged_mates(mates, row):
    """The list of the mates when a longer row, or a way, is exchanged."""
    changed = list(mates)
    for at in range(0, len(row) - 1, 2):
        changed[row[at]] = row[at + 1]
        changed[row[at + 1]] = row[at]
    if len(row) % 2 == 1:
        changed[row[-1]] = None
    return changed


def greatest_mates(near, mask):
    """The tuple (mates, ways), as of paired_whole, of a greatest pairing of the mask."""
    return paired_whole(near, mask, [None] * len(near))


def freed(mates, places):
    """The list of the mates when the places are taken out."""
    changed = list(mates)
    for place in places:
        if changed[place] is not None:
            changed[changed[place]] = None
            changed[place] = None
    return changed


def spare_of(mask, mates):
    """How many places of the mask are alone."""
    return len([place for place in places_in(mask) if mates[place] is None])


def ties_of(mates):
    """The pairing as an ascending tuple of ties."""
    pairs = [(place, mate) for place, mate in enumerate(mates) if mate is not None]
    return tuple([(place, mate) for place, mate in pairs if place < mate])


def first_full(near, mask, mates):
    """The first pairing, as Python orders tuples, of the mask, of which mates is a full one."""
    ties = []
    while mask:
        place = (mask & -mask).bit_length() - 1
        rest = mask - (1 << place)
        ways = grown(near, rest, freed(mates, (place,)), mates[place])[1]
        # Without the place and one to which a way leads, the others are paired whole.
        mate = min([other for other in places_in(near[place] & rest) if other in ways])
        ties.append((place, mate))
        mates = exchanged_mates(freed(mates, (place,)), ways[mate])
        mask = rest - (1 << mate)
    return tuple(ties)
