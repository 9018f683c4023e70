"""The functions of the interface: their parameters, and arguments that fit.

replay and the classes are tested by test_live and test_console.
"""

import re

from everypairing import barriers, chances, counts, ears_covered, ears_odd, game, greatest, heaviest
from everypairing import joining, losses, lots, mixtures, numbered, paper_texts, shares_of_ties, sides
from everypairing import switches, webs

MODULES = (
    webs, greatest, lots, shares_of_ties, barriers, ears_odd, ears_covered, switches, sides,
    mixtures, counts, numbered, chances, heaviest, game, losses, joining, paper_texts,
)

# As the interface lists them; a default value stands behind "=".
INTERFACE = {
    webs: """
        is_web(value) is_pairing(web, value) mate(web, pairing, place) alone(web, pairing)
        pieces(web, lot=()) odd_pieces(web, lot=()) inner(web, lot) renamed(web, row)
        beside(web, other_web) with_tie(web, tie) less_tie(web, tie) mirrored(web)
        web_text(web) web_told(text)
    """,
    greatest: """
        greatest_size(web) spare(web) greatest_pairing(web) is_greatest(web, pairing)
        longer_row(web, pairing) is_longer_row(web, pairing, value)
        lengthened(web, pairing, row) completed(web, pairing) excess(web, lot) spare_lot(web)
    """,
    lots: "lots(web) open_pieces(web) leaving(web, place) held(web, pairing)",
    shares_of_ties: """
        fixed_ties(web) loose_ties(web) idle_ties(web) tie_kind(web, tie)
        kind_between(web, place, other_place) greatest_with(web, tie) greatest_avoiding(web, tie)
        lean_web(web) lean_pieces(web) is_covered(web) tie_counts(web) tie_shares(web)
        alone_shares(web) share_of(web, ties)
    """,
    barriers: """
        is_barrier(web, lot) barriers(web) barrier_count(web) barriers_over(web, lot)
        greatest_barriers(web) is_dear(web, lot) barrier_over(web, lot) barrier_core(web)
        place_classes(web) pieces_left(web, lot) met_pieces(web, lot, pairing)
    """,
    ears_odd: """
        is_near_full(web) near_pairing(web, place) near_counts(web) hindrance(web) lumps(web)
        odd_ears(web, place) is_odd_ears(web, place, value) ears_along(web, pairing)
        is_ears_along(web, pairing, value) near_by_ears(web, place, ears, goal)
    """,
    ears_covered: """
        takes_ear(web, place, other_place) covered_ears(web, tie) is_covered_ears(web, tie, value)
        covered_along(web, pairing) is_covered_along(web, pairing, value) bridges(web)
        lone_row(web) is_lone_row(web, value)
    """,
    switches: """
        difference(web, pairing, other_pairing) is_switch(web, pairing, value)
        switched(web, pairing, switch) is_switch_row(web, pairing, other_pairing, value)
        fewest_switches(web, pairing, other_pairing) switch_row(web, pairing, other_pairing)
        switch_at(web, pairing, tie) switch_to_alone(web, pairing, place)
        between_count(web, pairing, other_pairing)
        nth_between(web, pairing, other_pairing, number) small_classes(web)
        small_row(web, pairing, other_pairing)
    """,
    sides: """
        sides(web) partners(web, lot) is_cover(web, lot) greatest_lack(web) short_ends(web)
        short_lot_count(web) nth_short_lot(web, number) is_short_lot(web, lot)
        cover_by(web, lot) least_cover(web) blocks(web) tie_parting(web)
    """,
    mixtures: "crossing(web, shares, lot) mixture(web, shares) is_mixture(web, shares, value)",
    counts: """
        pairing_counts(web) pairing_total(web) greatest_count(web) full_count(web)
        is_even_lot(web, lot) even_lot(web) odd_lots(web)
    """,
    numbered: """
        nth_pairing(web, number, size=None) pairing_rank(web, pairing, sized=False)
        next_pairing(web, pairing, sized=False)
    """,
    chances: """
        alone_chance(web, place, worth=(1, 1)) tie_chance(web, tie, worth=(1, 1))
        chance_paper(web, place, worth=(1, 1)) is_chance_paper(web, place, value, worth=(1, 1))
        near_chance(web, place, number, worth=(1, 1)) expected_ties(web, worth=(1, 1))
    """,
    heaviest: """
        heaviest(web, weights) size_weights(web, weights) is_pricing(web, weights, value)
        pricing_cost(web, weights, value) pricing(web, weights)
    """,
    game: "mover_wins(web, walk) winning_moves(web, walk) winning_starts(web) guide(web, walk)",
    losses: """
        greatest_holding(web, pairing) greatest_leaving(web, lot) leaving_lots(web)
        best_leaving(web, worths) lost(web, ties) least_loss(web) is_loss(web, value)
        unextended(web, count) unfull_without_two(web)
    """,
    joining: """
        joined_webs(web, other_web) put_in(web, place, other_web) stretched(web, tie)
        doubled(web, place, lot) drawn(web, lot) to_stretched(web, tie, pairing)
        from_stretched(web, tie, new_pairing) to_doubled(web, place, lot, pairing)
        from_doubled(web, place, lot, new_pairing) from_drawn(web, lot, new_pairing) kernel(web)
        from_kernel(web, new_pairing)
    """,
    paper_texts: "paper_text(web, pairing, lot) paper_told(text)",
}

FIVE = (5, ((0, 1), (0, 4), (1, 2), (2, 3), (3, 4)))
PATH = (4, ((0, 1), (1, 2), (2, 3)))
STAR = (4, ((0, 1), (0, 2), (0, 3)))
SQUARE = (4, ((0, 1), (0, 3), (1, 2), (2, 3)))
EARS = [(0, 1, 2, 3, 4, 0)]

# The usual fitting argument of a parameter, for the web FIVE, and those that differ.
FITTING = {
    "web": FIVE, "other_web": PATH, "value": None, "pairing": ((0, 1), (2, 3)), "place": 0,
    "other_place": 1, "lot": (0, 2), "tie": (0, 1), "ties": ((0, 1), (2, 3)), "ears": EARS,
    "goal": 2, "text": "d:ab,bc", "row": (1, 2, 3, 4, 0), "other_pairing": ((1, 2), (3, 4)),
    "switch": ("row", (2, 3, 4)), "number": 0, "size": 1,
    "sized": True, "worth": (2, 3), "shares": ((1, 2),) * 4, "weights": (3, 0, 1, 1000000, 2),
    "walk": (1, 2, 3), "worths": (0, 1, 1000000, 1, 5), "count": 1,
    "new_pairing": ((1, 2), (3, 4)),
}
TWO_SIDED = (5, ((0, 2), (0, 3), (1, 3), (1, 4)))
SPECIAL = {
    "with_tie": {"tie": (0, 2)},
    "lengthened": {"pairing": ((1, 2),), "row": (3, 4)},
    "place_classes": {"web": PATH},
    "pieces_left": {"web": STAR, "lot": (0,)},
    "met_pieces": {"web": STAR, "lot": (0,), "pairing": ((0, 2),)},
    "takes_ear": {"web": SQUARE},
    "covered_ears": {"web": SQUARE},
    "covered_along": {"web": SQUARE},
    "cover_by": {"web": TWO_SIDED, "lot": ()},
    "pricing_cost": {"value": ((3, 0, 1000000, 0, 2), [((0, 1, 2), 1)])},
    "unextended": {"web": PATH},
    "unfull_without_two": {"web": PATH},
    "doubled": {"lot": (1, 4)},
    "to_doubled": {"lot": (1, 4)},
    "from_doubled": {"lot": (1, 4)},
    "from_drawn": {"lot": (0,)},
    "from_kernel": {"new_pairing": ()},
    "paper_text": {"lot": ()},
    "paper_told": {"text": "d:ab,bc,cd;ab,cd;"},
}
for name in ("crossing", "mixture", "is_mixture"):
    SPECIAL[name] = {"web": SQUARE}
for name in ("sides", "greatest_lack", "short_ends", "short_lot_count", "nth_short_lot",
             "is_short_lot", "least_cover", "blocks", "tie_parting"):
    SPECIAL[name] = {"web": TWO_SIDED}


def listed():
    """The tuples (module, name, the words of the parameters) of all functions."""
    found = []
    for module, text in INTERFACE.items():
        for name, rest in re.findall(r"(\w+)\(((?:[^()]|\([^()]*\))*)\)", text):
            found.append((module, name, re.findall(r"\w+(?:=\([^()]*\)|=\w+)?", rest)))
    return found


def calls():
    """The tuples (function, names of its parameters, fitting arguments)."""
    found = []
    for module, name, words in listed():
        names = [word.split("=")[0] for word in words]
        fitting = dict(FITTING, **SPECIAL.get(name, {}))
        found.append((getattr(module, name), names, [fitting[word] for word in names]))
    return found
