"""Heaviest pairings, and pricings that show that no pairing weighs more."""

from everypairing.checks import MOST_LISTED
from everypairing.checks import check_at_most, check_web, check_weights
from everypairing.checks import fits_lot, is_ascending, is_list, is_tuple, is_whole
from everypairing.errors import InvalidPricing
from everypairing.masks import all_places, near_masks, piece_masks, places_in


def heaviest(web, weights):
    """The tuple of the greatest weight of a pairing, and a pairing that has it."""
    check_web(web)
    check_weights(web, weights)
    heavy = _weight_rows(web, weights)
    known = {}
    mask = all_places(web)
    weight = _most(heavy, mask, known)
    left = weight
    ties = []
    while mask:
        place = _least(mask)
        mask -= 1 << place
        if _most(heavy, mask, known) < left:
            mate = _fitting_mate(heavy, place, mask, left, known)
            left -= heavy[place][mate]
            mask -= 1 << mate
            ties.append((place, mate))
    return (weight, tuple(ties))


def size_weights(web, weights):
    """The list of the greatest weights of the pairings of 0, 1, .. ties."""
    check_web(web)
    check_weights(web, weights)
    return _most_by_size(_weight_rows(web, weights), near_masks(web), all_places(web), {})


def is_pricing(web, weights, value):
    """Whether any value is a pricing for the weights."""
    check_web(web)
    check_weights(web, weights)
    n, ties = web
    if not is_tuple(value) or len(value) != 2:
        return False
    prices, lots = value
    if not is_tuple(prices) or len(prices) != n or not all([_is_from(0, price) for price in prices]):
        return False
    if not is_list(lots) or not all([_fits_priced(n, part) for part in lots]):
        return False
    # What is ascending by its lots alone has no lot twice.
    if not is_ascending([lot for lot, price in lots]):
        return False
    return all([_price(value, tie) >= weight for tie, weight in zip(ties, weights)])


def pricing_cost(web, weights, value):
    """What the pricing costs."""
    check_web(web)
    check_weights(web, weights)
    if not is_pricing(web, weights, value):
        raise InvalidPricing("no pricing for the weights")
    prices, lots = value
    return sum(prices) + sum([(len(lot) - 1) // 2 * price for lot, price in lots])


def pricing(web, weights):
    """A pricing that costs as much as a heaviest pairing weighs."""
    check_web(web)
    check_weights(web, weights)
    check_at_most(web[0], MOST_LISTED)
    heavy = _weight_rows(web, weights)
    everything = all_places(web)
    prices = []
    for place in range(web[0]):
        # What the best pairing loses without the place; then some best one leaves it alone.
        known = {}
        without = _most(heavy, everything - (1 << place), known)
        prices.append(_most(heavy, everything, known) - without)
        for other in range(web[0]):
            _lower(heavy, place, other, prices[-1])
    return (tuple(prices), sorted(_priced_lots(heavy, everything)))


def _least(mask):
    """The least place of the mask."""
    return (mask & -mask).bit_length() - 1


def _weight_rows(web, weights):
    """The list of lists that have the weight of each two places, 0 if they are not tied."""
    n, ties = web
    heavy = [[0] * n for _ in range(n)]
    for (x, y), weight in zip(ties, weights):
        heavy[x][y] = weight
        heavy[y][x] = weight
    return heavy


def _lower(heavy, x, y, price):
    """Take the price from the weight of the two places, as far as it goes."""
    left = max(0, heavy[x][y] - price)
    heavy[x][y] = left
    heavy[y][x] = left


def _heavy_mates(heavy, place, mask):
    """The list of the places of the mask whose tie with the place weighs anything."""
    return [other for other in places_in(mask) if heavy[place][other] > 0]


def _most(heavy, mask, known):
    """The greatest weight of a pairing of the mask.

    known is a dict of what is told already; it gets what is told here.
    """
    if mask == 0:
        return 0
    if mask not in known:
        place = _least(mask)
        rest = mask - (1 << place)
        row = heavy[place]
        best = _most(heavy, rest, known)
        for mate in _heavy_mates(heavy, place, rest):
            best = max(best, row[mate] + _most(heavy, rest - (1 << mate), known))
        known[mask] = best
    return known[mask]


def _fitting_mate(heavy, place, rest, left, known):
    """The first mate of the place with which the best pairing of the rest weighs what is left."""
    for mate in _heavy_mates(heavy, place, rest):
        if heavy[place][mate] + _most(heavy, rest - (1 << mate), known) == left:
            return mate
    return None


def _most_by_size(heavy, near, mask, known):
    """The list of the greatest weights of the pairings of the mask of 0, 1, .. ties.

    known is a dict of what is told already; it gets what is told here.
    """
    if mask == 0:
        return [0]
    if mask not in known:
        place = _least(mask)
        rest = mask - (1 << place)
        best = list(_most_by_size(heavy, near, rest, known))
        for mate in places_in(near[place] & rest):
            weight = heavy[place][mate]
            # With one tie more at most, so the list grows by one at most.
            for size, other in enumerate(_most_by_size(heavy, near, rest - (1 << mate), known)):
                if size + 1 == len(best):
                    best.append(weight + other)
                elif weight + other > best[size + 1]:
                    best[size + 1] = weight + other
        known[mask] = best
    return known[mask]


def _priced_lots(heavy, mask):
    """The list of tuples (lot, price) that pay for the weights within the mask.

    Each place of the mask is left alone by some heaviest pairing. Then each piece of the ties
    that weigh anything has an odd number of places, and each heaviest pairing of it leaves just
    one of them alone (as in the proof that integers are enough). The price of the piece is what
    the last tie of these brings; when it is taken from all weights, the piece falls apart.
    """
    near = [_near_mask(heavy, place) for place in range(len(heavy))]
    found = []
    for piece in piece_masks(near, mask):
        places = places_in(piece)
        if len(places) > 1:
            best = _most_by_size(heavy, near, piece, {})
            price = best[-1] - best[-2]
            found.append((places, price))
            for at, place in enumerate(places):
                for other in places[:at]:
                    _lower(heavy, place, other, price)
            found.extend(_priced_lots(heavy, piece))
    return found


def _near_mask(heavy, place):
    """The mask of the places whose tie with the place weighs anything."""
    return sum([1 << other for other, weight in enumerate(heavy[place]) if weight > 0])


def _is_from(least, value):
    """Whether the value is an integer from the least one on."""
    return is_whole(value) and value >= least


def _fits_priced(n, value):
    """Whether the value is a tuple of a lot of an odd number of places, three or more, and a price."""
    if not is_tuple(value) or len(value) != 2:
        return False
    lot, price = value
    return fits_lot(n, lot) and len(lot) >= 3 and len(lot) % 2 == 1 and _is_from(1, price)


def _price(pricing_told, tie):
    """What the prices of the ends of the tie, and of the lots that have both, add up to."""
    prices, lots = pricing_told
    x, y = tie
    return prices[x] + prices[y] + sum([price for lot, price in lots if x in lot and y in lot])
