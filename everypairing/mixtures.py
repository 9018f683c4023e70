"""Shares of ties, and mixtures of full pairings that have them."""

from itertools import combinations
from math import lcm

from everypairing.checks import MOST_LISTED
from everypairing.checks import check_at_most, check_lot, check_shares, check_web
from everypairing.checks import fits_fraction, fits_pairing, is_list, is_tuple
from everypairing.errors import NotMixture
from everypairing.listing import greatest_pairings
from everypairing.ratios import ratio, ratio_sum


def crossing(web, shares, lot):
    """The sum of the shares of the ties that cross the lot."""
    check_web(web)
    check_shares(web, shares)
    check_lot(web, lot)
    return ratio_sum([share for tie, share in zip(web[1], shares) if _crosses(tie, lot)])


def mixture(web, shares):
    """A mixture for the shares."""
    check_web(web)
    check_shares(web, shares)
    check_at_most(web[0], MOST_LISTED)
    # In whole numbers: all shares, and so the sum at each place, times a common bottom.
    whole = _common_bottom(shares)
    left = {tie: top * (whole // bottom) for tie, (top, bottom) in zip(web[1], shares)}
    lots = [lot for size in range(3, web[0] + 1, 2) for lot in combinations(range(web[0]), size)]
    for lot in lots:
        if _sum_across(left, lot) < whole:
            raise NotMixture(lot)
    return _mixed(greatest_pairings(web), left, whole, lots)


def is_mixture(web, shares, value):
    """Whether any value is a mixture for the shares."""
    check_web(web)
    check_shares(web, shares)
    if not is_list(value) or not all([_fits_part(web, part) for part in value]):
        return False
    if len(set([pairing for _, pairing in value])) < len(value):
        return False
    whole = _common_bottom([fraction for fraction, _ in value])
    sums = {tie: 0 for tie in web[1]}
    total = 0
    for (top, bottom), pairing in value:
        number = top * (whole // bottom)
        total += number
        for tie in pairing:
            sums[tie] += number
    told = [sums[tie] * bottom == top * whole for tie, (top, bottom) in zip(web[1], shares)]
    return total == whole and all(told)


def _common_bottom(fractions):
    """The least number of which the bottoms of all fractions are parts."""
    whole = 1
    for _, bottom in fractions:
        whole = lcm(whole, bottom)
    return whole


def _crosses(tie, lot):
    """Whether the tie has just one end in the lot."""
    return (tie[0] in lot) != (tie[1] in lot)


def _sum_across(left, lot):
    """The sum of what is left for the ties that cross the lot."""
    return sum([number for tie, number in left.items() if _crosses(tie, lot)])


def _mixed(pairings, left, whole, lots):
    """A mixture out of the full pairings, if what is left for the ties has one.

    What is left always has one: a pairing is taken that has only ties for which something is
    left, and crosses each lot that is crossed by no more than it must be just once; and so much
    is taken of it that one more tie, or one more lot, comes to its end. So it is not taken again.
    """
    parts = []
    rest = whole
    while rest:
        # A full pairing of 8 places crosses an odd lot one time or three times, so the parts
        # that are taken are whole numbers or halves.
        left = {tie: 2 * number for tie, number in left.items()}
        rest = 2 * rest
        whole = 2 * whole
        over = {lot: _sum_across(left, lot) - rest for lot in lots}
        tight = [lot for lot in lots if over[lot] == 0]
        pairing = [one for one in pairings if _fits_rest(one, left, tight)][0]
        wide = [lot for lot in lots if _times_across(pairing, lot) == 3]
        part = min([left[tie] for tie in pairing] + [over[lot] // 2 for lot in wide])
        parts.append((ratio(part, whole), pairing))
        left = {tie: left[tie] - part if tie in pairing else left[tie] for tie in left}
        rest -= part
    return parts


def _times_across(pairing, lot):
    """How many ties of the pairing cross the lot."""
    return len([tie for tie in pairing if _crosses(tie, lot)])


def _fits_rest(pairing, left, tight):
    """Whether something is left for all its ties, and it crosses each tight lot just once."""
    if not all([left[tie] for tie in pairing]):
        return False
    return all([_times_across(pairing, lot) == 1 for lot in tight])


def _fits_part(web, value):
    """Whether the value is a tuple of a fraction above 0 and a full pairing."""
    if not is_tuple(value) or len(value) != 2:
        return False
    fraction, pairing = value
    if not fits_fraction(fraction) or fraction[0] == 0:
        return False
    return fits_pairing(web, pairing) and 2 * len(pairing) == web[0]
