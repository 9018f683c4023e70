"""Numbers of pairings, reckoned place by place over what is left behind each place.

A *packed* number tells a number for each number of ties: that for k ties stands at the bits from
20 * k on. Sums and products of packed numbers are then those of the numbers that they tell, and
no number reaches the next one, since 12 places have 140,152 pairings at the most.
Nothing here checks what it is passed.
"""

from everypairing.masks import places_in

WIDTH = 20


def told_for(packed, size):
    """The number that the packed number tells for so many ties."""
    return packed >> WIDTH * size & (1 << WIDTH) - 1


def _low(mask):
    """The least place of the mask; -1, so the last index of a list, for no place."""
    return (mask & -mask).bit_length() - 1


def _stages(near, mask, opened):
    """The list of dicts that have, by the least place that is left, what can be left of the mask.

    The value of what is left is the packed number of the ways to pair those that are not left,
    with only open ones of them alone. The last dict is for nothing left.
    """
    stages = [{} for _ in near] + [{}]
    stages[_low(mask)][mask] = 1
    for place in range(len(near)):
        for state, count in list(stages[place].items()):
            rest = state - (1 << place)
            if opened >> place & 1:
                stage = stages[_low(rest)]
                stage[rest] = stage.get(rest, 0) + count
            count <<= WIDTH
            mates = near[place] & rest
            while mates:
                bit = mates & -mates
                mates -= bit
                left = rest - bit
                stage = stages[_low(left)]
                stage[left] = stage.get(left, 0) + count
    return stages


def packed_of(near, mask, known):
    """The packed number of all pairings of the places of the mask.

    known is a dict of such numbers by their masks; it gets those that are reckoned here.
    """
    if mask == 0:
        return 1
    if mask not in known:
        place = _low(mask)
        rest = mask - (1 << place)
        total = packed_of(near, rest, known)
        for mate in places_in(near[place] & rest):
            total += packed_of(near, rest - (1 << mate), known) << WIDTH
        known[mask] = total
    return known[mask]


def numbers_told(packed):
    """The list of the numbers that a packed number tells, up to the last one that is not 0."""
    found = []
    while packed >> WIDTH * len(found):
        found.append(told_for(packed, len(found)))
    return found


def packed_total(near, mask, opened):
    """The packed number of the pairings of the mask that leave only open places alone."""
    return _stages(near, mask, opened)[-1].get(0, 0)


def tallies(near, mask, opened, size):
    """The tuple (total, paired, alone) of the pairings of the mask with so many ties.

    Only those that leave only open places alone are counted: total is their number, paired the
    dict of the numbers of those that have each tie, alone the list of the numbers of those that
    leave each place alone.
    """
    stages = _stages(near, mask, opened)
    behind = {0: 1}
    paired = {}
    alone = [0] * len(near)
    for place in reversed(range(len(near))):
        sums = [0] * len(near)
        for state, count in stages[place].items():
            rest = state - (1 << place)
            total = 0
            if opened >> place & 1:
                total = behind[rest]
                alone[place] += count * total
            mates = near[place] & rest
            while mates:
                bit = mates & -mates
                mates -= bit
                number = behind[rest - bit] << WIDTH
                total += number
                sums[bit.bit_length() - 1] += count * number
            behind[state] = total
        for mate in range(place + 1, len(near)):
            paired[(place, mate)] = told_for(sums[mate], size)
    return (
        told_for(behind[mask], size), paired, [told_for(number, size) for number in alone],
    )
