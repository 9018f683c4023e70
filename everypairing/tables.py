"""What is reckoned once for all masks of places of a web, and read off from it.

Nothing here checks what it is passed.
"""

from everypairing.masks import near_masks, odd_piece_masks, places_in


def size_table(near):
    """The list that has at each mask the size of a greatest pairing of its places."""
    sizes = [0]
    for last in range(len(near)):
        bits = [1 << place for place in range(last) if near[last] >> place & 1]
        for rest in range(1 << last):
            paired = [sizes[rest - bit] + 1 for bit in bits if rest & bit]
            sizes.append(max([sizes[rest]] + paired))
    return sizes


def count_table(near, sizes):
    """The list that has at each mask the number of the greatest pairings of its places."""
    counts = [1]
    for last in range(len(near)):
        bits = [1 << place for place in range(last) if near[last] >> place & 1]
        for rest in range(1 << last):
            size = sizes[rest + (1 << last)]
            count = counts[rest] if sizes[rest] == size else 0
            for bit in bits:
                if rest & bit and sizes[rest - bit] + 1 == size:
                    count += counts[rest - bit]
            counts.append(count)
    return counts


def excess_table(web):
    """The list that has at the mask of each lot its excess."""
    near = near_masks(web)
    everything = (1 << len(near)) - 1
    return [
        len(odd_piece_masks(near, everything - lot)) - len(places_in(lot))
        for lot in range(everything + 1)
    ]


def first_greatest(near, sizes, mask):
    """The first greatest pairing of the places of the mask, as Python orders tuples."""
    ties = []
    while sizes[mask]:
        least = (mask & -mask).bit_length() - 1
        rest = mask - (1 << least)
        mates = [
            place for place in places_in(near[least] & rest)
            if sizes[rest - (1 << place)] + 1 == sizes[mask]
        ]
        mask = rest
        if mates:
            ties.append((least, mates[0]))
            mask = rest - (1 << mates[0])
    return tuple(ties)


def spare_of(sizes, mask):
    """How many places of the mask are alone in a greatest pairing of them."""
    return len(places_in(mask)) - 2 * sizes[mask]


def open_mask(sizes):
    """The places that some greatest pairing leaves alone."""
    everything = len(sizes) - 1
    return sum([
        1 << place for place in places_in(everything)
        if sizes[everything - (1 << place)] == sizes[everything]
    ])


def holding_mask(near, opened):
    """The places that are not open but tied with one of the open ones."""
    found = 0
    for place in places_in(opened):
        found |= near[place]
    return found & ~opened
