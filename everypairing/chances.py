"""Chances in a pairing that is drawn by weight, and papers that tell them from ways alone."""

from everypairing.checks import check_number, check_place, check_tie, check_web, check_worth
from everypairing.checks import is_list, is_tuple, is_whole
from everypairing.errors import TooMany
from everypairing.masks import all_places, mask_of, near_masks, places_in
from everypairing.ratios import ratio, ratio_sum
from everypairing.tables import numbers_told, packed_of

MOST_WAYS = 400
MOST_TIES = 6


def alone_chance(web, place, worth=(1, 1)):
    """The chance that the place is alone."""
    check_web(web)
    check_place(web, place)
    check_worth(worth)
    return ratio(_weight_without(web, (place,), worth), _weight_without(web, (), worth))


def tie_chance(web, tie, worth=(1, 1)):
    """The chance that the tie is in the pairing."""
    check_web(web)
    check_tie(web, tie)
    check_worth(worth)
    t, b = worth
    return ratio(t * _weight_without(web, tie, worth), b * _weight_without(web, (), worth))


def chance_paper(web, place, worth=(1, 1)):
    """The chance paper of the place."""
    check_web(web)
    check_place(web, place)
    check_worth(worth)
    return _paper(web, place, web[0], worth)


def is_chance_paper(web, place, value, worth=(1, 1)):
    """Whether any value is the chance paper of the place."""
    check_web(web)
    check_place(web, place)
    check_worth(worth)
    if not is_list(value) or not all([_fits_line(line) for line in value]):
        return False
    ways = _ways(web, place, web[0])
    if len(ways) > MOST_WAYS or len(ways) != len(value):
        return False
    return value == _paper(web, place, web[0], worth)


def near_chance(web, place, number, worth=(1, 1)):
    """What the paper would tell of the place if only ways of at most so many ties were there."""
    check_web(web)
    check_place(web, place)
    check_number(number)
    check_worth(worth)
    return _paper(web, place, number, worth)[0][1]


def expected_ties(web, worth=(1, 1)):
    """The mean, by weight, of the number of ties."""
    check_web(web)
    check_worth(worth)
    weights = _weights(numbers_told(packed_of(near_masks(web), all_places(web), {})), worth)
    return ratio(sum([size * weight for size, weight in enumerate(weights)]), sum(weights))


def _weights(counts, worth):
    """The list of the weights of all pairings of 0, 1, .. ties, all times b ** 6."""
    t, b = worth
    weights = []
    for size, count in enumerate(counts):
        weight = count
        for at in range(MOST_TIES):
            weight *= t if at < size else b
        weights.append(weight)
    return weights


def _weight_without(web, places, worth):
    """The weight of all pairings of the web without the places, times b ** 6."""
    rest = all_places(web) - mask_of(places)
    return sum(_weights(numbers_told(packed_of(near_masks(web), rest, {})), worth))


def _ways(web, place, number):
    """The ascending list of the ways of at most so many ties that begin with the place.

    If there are more than 400, only some of them, but more than 400.
    """
    near = near_masks(web)
    found = []
    waiting = [(place,)]
    while waiting and len(found) <= MOST_WAYS:
        way = waiting.pop()
        found.append(way)
        if len(way) <= number:
            longer = places_in(near[way[-1]] & ~mask_of(way))
            waiting.extend([way + (other,) for other in longer[::-1]])
    return found


def _paper(web, place, number, worth):
    """The chance paper, if only ways of at most so many ties are there."""
    ways = _ways(web, place, number)
    if len(ways) > MOST_WAYS:
        raise TooMany(MOST_WAYS)
    t, b = worth
    longer = {way: [] for way in ways}
    lines = []
    # Each way stands ahead of those that are longer.
    for way in ways[::-1]:
        top, bottom = ratio_sum(longer[way])
        chance = ratio(b * bottom, b * bottom + t * top)
        if len(way) > 1:
            longer[way[:-1]].append(chance)
        lines.append((way, chance))
    return lines[::-1]


def _fits_line(value):
    """Whether the value is a tuple of two tuples of integers."""
    if not is_tuple(value) or len(value) != 2 or not all([is_tuple(part) for part in value]):
        return False
    return all([is_whole(number) for part in value for number in part])
