"""Ties that stand in all, in some or in none of the greatest pairings, and their shares."""

from everypairing.checks import check_other_place, check_place, check_tie, check_ties, check_web
from everypairing.finding import freed, greatest_mates, paired_whole, spare_of, ties_of
from everypairing.masks import all_places, mask_of, near_masks
from everypairing.parts import is_covered_mask, lean_masks
from everypairing.ratios import ratio
from everypairing.rows import tie_of
from everypairing.tables import packed_total, tallies, told_for
from everypairing.webs import less_tie, pieces, with_tie


def fixed_ties(web):
    """The ascending list of the ties that stand in all greatest pairings."""
    check_web(web)
    return _ties_of_kind(web, "fixed")


def loose_ties(web):
    """The ascending list of the ties that stand in some greatest pairings, but not in all."""
    check_web(web)
    return _ties_of_kind(web, "loose")


def idle_ties(web):
    """The ascending list of the ties that stand in no greatest pairing."""
    check_web(web)
    return _ties_of_kind(web, "idle")


def tie_kind(web, tie):
    """The kind of the tie: "fixed", "loose" or "idle"."""
    check_web(web)
    check_tie(web, tie)
    return _kinds(web)[tie]


def kind_between(web, place, other_place):
    """The kind of the tie of the two places, which is put in if they are not tied."""
    check_web(web)
    check_place(web, place)
    check_other_place(web, place, other_place)
    tie = tie_of(place, other_place)
    tied = web if tie in web[1] else with_tie(web, tie)
    return _kinds(tied)[tie]


def greatest_with(web, tie):
    """A greatest pairing that has the tie; None if there is none."""
    check_web(web)
    check_tie(web, tie)
    near = near_masks(web)
    everything = all_places(web)
    mates = greatest_mates(near, everything)[0]
    rest = everything - mask_of(tie)
    found = paired_whole(near, rest, freed(mates, tie))[0]
    if spare_of(rest, found) > spare_of(everything, mates):
        return None
    return tuple(sorted(ties_of(found) + (tie,)))


def greatest_avoiding(web, tie):
    """A greatest pairing that does not have the tie; None if there is none."""
    check_web(web)
    check_tie(web, tie)
    everything = all_places(web)
    mates = greatest_mates(near_masks(web), everything)[0]
    x, y = tie
    if mates[x] != y:
        return ties_of(mates)
    found = paired_whole(near_masks(less_tie(web, tie)), everything, freed(mates, tie))[0]
    if spare_of(everything, found) > spare_of(everything, mates):
        return None
    return ties_of(found)


def lean_web(web):
    """The web without its idle ties."""
    check_web(web)
    lean = lean_masks(near_masks(web))[3]
    return (web[0], tuple([(x, y) for x, y in web[1] if lean[x] >> y & 1]))


def lean_pieces(web):
    """The ascending list of the pieces of the lean web."""
    check_web(web)
    return pieces(lean_web(web))


def is_covered(web):
    """Whether the web has two places or more, is joined, has a full pairing and no idle tie."""
    check_web(web)
    return is_covered_mask(near_masks(web), all_places(web))


def tie_counts(web):
    """The tuple of the numbers of greatest pairings that have each tie."""
    check_web(web)
    paired = _tallied(web)[1]
    return tuple([paired[tie] for tie in web[1]])


def tie_shares(web):
    """The tuple of the shares of the single ties."""
    check_web(web)
    total, paired, _ = _tallied(web)
    return tuple([ratio(paired[tie], total) for tie in web[1]])


def alone_shares(web):
    """The tuple of the shares alone of the places."""
    check_web(web)
    total, _, alone = _tallied(web)
    return tuple([ratio(count, total) for count in alone])


def share_of(web, ties):
    """The share of these ties together."""
    check_web(web)
    check_ties(web, ties)
    mates, opened, _, lean = lean_masks(near_masks(web))
    rest = all_places(web)
    if any([not lean[x] >> y & 1 for x, y in ties]):
        return (0, 1)
    for x, y in ties:
        if not (rest >> x & 1 and rest >> y & 1):
            return (0, 1)
        rest -= (1 << x) + (1 << y)
    size = len(ties_of(mates))
    count = told_for(packed_total(lean, rest, opened), size - len(ties))
    return ratio(count, told_for(packed_total(lean, all_places(web), opened), size))


def _tallied(web):
    """The tuple (total, paired, alone), as of tallies, of the greatest pairings."""
    mates, opened, _, lean = lean_masks(near_masks(web))
    return tallies(lean, all_places(web), opened, len(ties_of(mates)))


def _kinds(web):
    """The dict of the kinds of all ties."""
    _, _, closed, lean = lean_masks(near_masks(web))
    kinds = {}
    for x, y in web[1]:
        kinds[(x, y)] = "loose"
        if not lean[x] >> y & 1:
            kinds[(x, y)] = "idle"
        # A place that is not open, with one tie that is not idle, always has this tie.
        elif closed >> x & 1 and lean[x] == 1 << y:
            kinds[(x, y)] = "fixed"
    return kinds


def _ties_of_kind(web, kind):
    """The ascending list of the ties of this kind."""
    kinds = _kinds(web)
    return [tie for tie in web[1] if kinds[tie] == kind]
