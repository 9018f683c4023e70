"""Ties that stand in all, in some or in none of the greatest pairings, and their shares."""

from everypairing.checks import check_other_place, check_place, check_tie, check_ties, check_web
from everypairing.masks import all_places, mask_of, near_masks
from everypairing.ratios import ratio
from everypairing.rows import tie_of
from everypairing.tables import count_table, first_greatest, size_table
from everypairing.webs import less_tie, pieces, with_tie


def fixed_ties(web):
    """The ascending list of the ties that stand in all greatest pairings."""
    check_web(web)
    return _ties_of_kind(web, "fixed")


def loose_ties(web):
    """The ascending list of the ties that stand in some greatest pairings, but not in all."""
    check_web(web)
    return _ties_of_kind(web, "loose")


def idle_ties(web):
    """The ascending list of the ties that stand in no greatest pairing."""
    check_web(web)
    return _ties_of_kind(web, "idle")


def tie_kind(web, tie):
    """The kind of the tie: "fixed", "loose" or "idle"."""
    check_web(web)
    check_tie(web, tie)
    return _kinds(web)[tie]


def kind_between(web, place, other_place):
    """The kind of the tie of the two places, which is put in if they are not tied."""
    check_web(web)
    check_place(web, place)
    check_other_place(web, place, other_place)
    tie = tie_of(place, other_place)
    tied = web if tie in web[1] else with_tie(web, tie)
    return _kinds(tied)[tie]


def greatest_with(web, tie):
    """A greatest pairing that has the tie; None if there is none."""
    check_web(web)
    check_tie(web, tie)
    near = near_masks(web)
    sizes = size_table(near)
    rest = all_places(web) - mask_of(tie)
    if sizes[rest] + 1 < sizes[all_places(web)]:
        return None
    return tuple(sorted(first_greatest(near, sizes, rest) + (tie,)))


def greatest_avoiding(web, tie):
    """A greatest pairing that does not have the tie; None if there is none."""
    check_web(web)
    check_tie(web, tie)
    near = near_masks(less_tie(web, tie))
    sizes = size_table(near)
    if sizes[-1] < size_table(near_masks(web))[-1]:
        return None
    return first_greatest(near, sizes, all_places(web))


def lean_web(web):
    """The web without its idle ties."""
    check_web(web)
    n, ties = web
    idle = idle_ties(web)
    return (n, tuple([tie for tie in ties if tie not in idle]))


def lean_pieces(web):
    """The ascending list of the pieces of the lean web."""
    check_web(web)
    return pieces(lean_web(web))


def is_covered(web):
    """Whether the web has two places or more, is joined, has a full pairing and no idle tie."""
    check_web(web)
    n = web[0]
    if n < 2 or len(pieces(web)) > 1:
        return False
    return 2 * size_table(near_masks(web))[-1] == n and idle_ties(web) == []


def tie_counts(web):
    """The tuple of the numbers of greatest pairings that have each tie."""
    check_web(web)
    sizes, counts = _tables(web)
    return tuple([_count_with(sizes, counts, (tie,)) for tie in web[1]])


def tie_shares(web):
    """The tuple of the shares of the single ties."""
    check_web(web)
    total = _tables(web)[1][-1]
    return tuple([ratio(count, total) for count in tie_counts(web)])


def alone_shares(web):
    """The tuple of the shares alone of the places."""
    check_web(web)
    sizes, counts = _tables(web)
    everything = all_places(web)
    shares = []
    for place in range(web[0]):
        rest = everything - (1 << place)
        count = counts[rest] if sizes[rest] == sizes[everything] else 0
        shares.append(ratio(count, counts[everything]))
    return tuple(shares)


def share_of(web, ties):
    """The share of these ties together."""
    check_web(web)
    check_ties(web, ties)
    sizes, counts = _tables(web)
    return ratio(_count_with(sizes, counts, ties), counts[-1])


def _tables(web):
    """The sizes, and the numbers, of the greatest pairings of all masks of places."""
    near = near_masks(web)
    sizes = size_table(near)
    return (sizes, count_table(near, sizes))


def _count_with(sizes, counts, ties):
    """The number of the greatest pairings that have all these ties."""
    everything = len(sizes) - 1
    rest = everything
    for x, y in ties:
        if not (rest >> x & 1 and rest >> y & 1):
            return 0
        rest -= (1 << x) + (1 << y)
    if sizes[rest] + len(ties) < sizes[everything]:
        return 0
    return counts[rest]


def _kinds(web):
    """The dict of the kinds of all ties."""
    sizes, counts = _tables(web)
    kinds = {}
    for tie in web[1]:
        count = _count_with(sizes, counts, (tie,))
        kinds[tie] = "loose"
        if count == 0:
            kinds[tie] = "idle"
        if count == counts[-1]:
            kinds[tie] = "fixed"
    return kinds


def _ties_of_kind(web, kind):
    """The ascending list of the ties of this kind."""
    kinds = _kinds(web)
    return [tie for tie in web[1] if kinds[tie] == kind]
