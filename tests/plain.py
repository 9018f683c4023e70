"""A second, plain reckoning, straight from the words of the document, and webs to try it on.

It shares no code with the program and is slow: it lists all pairings and all lots.
"""

import random
from fractions import Fraction
from itertools import combinations


def possible_ties(n):
    return list(combinations(range(n), 2))


def every_web(n):
    ends = possible_ties(n)
    return [
        (n, tuple(tie for at, tie in enumerate(ends) if bits >> at & 1))
        for bits in range(1 << len(ends))
    ]


def chance_webs(n, many, seed=0):
    source = random.Random(1000 * seed + n)
    webs = []
    for _ in range(many):
        part = source.choice((0.15, 0.25, 0.35, 0.5, 0.7, 0.9))
        webs.append((n, tuple(tie for tie in possible_ties(n) if source.random() < part)))
    return webs


def ring(n):
    return (n, tuple(sorted(tuple(sorted((x, (x + 1) % n))) for x in range(n))))


def line(n):
    return (n, tuple((x, x + 1) for x in range(n - 1)))


def all_tied(n):
    return (n, tuple(possible_ties(n)))


def untied(n):
    return (n, ())


def stars(n):
    return (n, tuple((0, x) for x in range(1, n)))


BOW = (5, ((0, 1), (0, 2), (1, 2), (2, 3), (2, 4), (3, 4)))
PRISM = (6, ((0, 1), (0, 2), (0, 3), (1, 2), (1, 4), (2, 5), (3, 4), (3, 5), (4, 5)))
SHAPES = (
    [ring(n) for n in range(3, 8)] + [line(n) for n in range(1, 8)]
    + [all_tied(n) for n in range(1, 8)] + [untied(n) for n in range(1, 8)]
    + [stars(n) for n in range(2, 8)] + [BOW, PRISM]
)


def small_webs(seed=0, many=60):
    """Webs of 1 to 7 places: all of up to 4, and many of 5 to 7."""
    webs = [web for n in range(1, 5) for web in every_web(n)]
    for n in (5, 6, 7):
        webs += chance_webs(n, many, seed)
    return webs + list(SHAPES)


def large_webs(seed=0, many=3):
    """Webs of 8 to 12 places, those of 12 with all ties, with none and with about half."""
    webs = [web for n in (8, 9, 10, 11, 12) for web in chance_webs(n, many, seed)]
    half = random.Random(5)
    webs.append((12, tuple(tie for tie in possible_ties(12) if half.random() < 0.5)))
    return webs + [all_tied(12), untied(12), line(11), ring(12), stars(12)]


def every_pairing(web):
    """All pairings, ascending as tuples."""
    found = []

    def lengthen(pairing, ends, start):
        found.append(pairing)
        for at in range(start, len(web[1])):
            x, y = web[1][at]
            if x not in ends and y not in ends:
                lengthen(pairing + ((x, y),), ends | {x, y}, at + 1)

    lengthen((), frozenset(), 0)
    return sorted(found)


def size(web):
    return max(len(pairing) for pairing in every_pairing(web))


def greatest(web):
    """All greatest pairings, ascending."""
    found = every_pairing(web)
    most = max(len(pairing) for pairing in found)
    return [pairing for pairing in found if len(pairing) == most]


def mate(pairing, place):
    for x, y in pairing:
        if place == x:
            return y
        if place == y:
            return x
    return None


def alone(web, pairing):
    return tuple(x for x in range(web[0]) if mate(pairing, x) is None)


def spare(web):
    return web[0] - 2 * size(web)


def lots_in_order(n):
    return [lot for many in range(n + 1) for lot in combinations(range(n), many)]


def components(places, ties):
    """The pieces of some places, ascending, by joining parts until no tie joins two."""
    parts = [{place} for place in places]
    for x, y in ties:
        if x in places and y in places:
            mine = [part for part in parts if x in part or y in part]
            parts = [part for part in parts if part not in mine] + [set().union(*mine)]
    return sorted(tuple(sorted(part)) for part in parts)


def pieces(web, lot=()):
    return components([x for x in range(web[0]) if x not in lot], web[1])


def odd_pieces(web, lot=()):
    return [piece for piece in pieces(web, lot) if len(piece) % 2]


def excess(web, lot):
    return len(odd_pieces(web, lot)) - len(lot)


def inner(web, lot):
    number = {place: at for at, place in enumerate(lot)}
    return (len(lot), tuple((number[x], number[y]) for x, y in web[1] if x in number and y in number))


def without(web, lot):
    """The web of all places but these; None if none is left."""
    rest = tuple(x for x in range(web[0]) if x not in lot)
    return inner(web, rest) if rest else None


def spare_without(web, lot):
    rest = without(web, lot)
    return 0 if rest is None else spare(rest)


def lots(web):
    found = greatest(web)
    opened = {x for pairing in found for x in alone(web, pairing)}
    near = {y for tie in web[1] for x, y in (tie, tie[::-1]) if x in opened}
    rest = set(range(web[0])) - opened - near
    return (tuple(sorted(opened)), tuple(sorted(near - opened)), tuple(sorted(rest)))


def tie_kind(web, tie):
    having = [tie in pairing for pairing in greatest(web)]
    return "fixed" if all(having) else "loose" if any(having) else "idle"


def share(web, ties):
    found = greatest(web)
    return pair_of(Fraction(sum(all(tie in pairing for tie in ties) for pairing in found), len(found)))


def pair_of(fraction):
    return (fraction.numerator, fraction.denominator)


def barriers(web):
    most = spare(web)
    return [lot for lot in lots_in_order(web[0]) if excess(web, lot) == most]


def contained_in_no_other(found):
    return [lot for lot in found if not any(set(lot) < set(other) for other in found)]


def is_joined(web, lot):
    return len(components(list(lot), web[1])) == 1


def lumps(web):
    firm = [
        lot for lot in lots_in_order(web[0])
        if lot and is_joined(web, lot)
        and (len(lot) == 1 or all(is_joined(web, [y for y in lot if y != x]) for x in lot))
    ]
    return contained_in_no_other(firm)


def pairings_leaving(web, place):
    """The pairings that leave just this place alone, ascending."""
    return [pairing for pairing in every_pairing(web) if alone(web, pairing) == (place,)]


def is_near_full(web):
    return all(pairings_leaving(web, place) for place in range(web[0]))


def hindrance(web):
    for lot in lots_in_order(web[0]):
        if lot and len(odd_pieces(web, lot)) >= len(lot):
            return lot
    return None


def tie_of(x, y):
    return (x, y) if x < y else (y, x)


def is_odd_ear(web, lot, ear):
    last = len(ear) - 1
    inside = ear[1:-1]
    return (
        last % 2 == 1
        and all(tie_of(x, y) in web[1] for x, y in zip(ear, ear[1:]))
        and ear[0] in lot and ear[-1] in lot
        and not any(x in lot for x in inside) and len(set(inside)) == len(inside)
        and (ear[0] != ear[-1] or last >= 3)
    )


def is_building(web, place, ears):
    """Whether a list of tuples of places is a building."""
    lot = {place}
    used = []
    for ear in ears:
        if not is_odd_ear(web, lot, ear):
            return False
        lot |= set(ear)
        used += [tie_of(x, y) for x, y in zip(ear, ear[1:])]
    return lot == set(range(web[0])) and sorted(used) == list(web[1])


def goes_along(pairing, ears):
    return all(
        tie_of(ear[at], ear[at + 1]) in pairing
        for ear in ears for at in range(1, len(ear) - 2, 2)
    )


def lean_web(web):
    return (web[0], tuple(tie for tie in web[1] if tie_kind(web, tie) != "idle"))


def is_covered(web):
    if web[0] < 2 or len(pieces(web)) > 1:
        return False
    found = greatest(web)
    return 2 * len(found[0]) == web[0] and {tie for p in found for tie in p} == set(web[1])


def full_pairings(web):
    return [pairing for pairing in greatest(web) if 2 * len(pairing) == web[0]]


def two_sided_webs(seed, many):
    """Two-sided webs of 1 to 8 places, whose sides are mixed up."""
    source = random.Random(seed)
    webs = [(1, ()), (2, ()), (2, ((0, 1),)), (8, ()), stars(8), line(7), ring(8), ring(6)]
    for _ in range(many):
        n = source.choice((3, 4, 5, 6, 6, 7, 7, 8, 8))
        marks = [source.random() < 0.5 for _ in range(n)]
        part = source.choice((0.3, 0.5, 0.7, 1))
        webs.append((n, tuple((x, y) for x, y in possible_ties(n)
                              if marks[x] != marks[y] and source.random() < part)))
    return webs


def wrong_in(parts):
    """Values that no web, lot, pairing .. has, and the parts as a tuple in the place of a list."""
    return [None, True, False, 0, 1, -1, 10 ** 80, "", "round", (), tuple(parts), [list(parts)],
            [None], [True], [()], [[]], [parts], {}, "abc", b"a", 1.5]
