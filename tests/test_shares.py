import unittest
from fractions import Fraction
from itertools import combinations
from math import gcd

from tests import plain
from everypairing import shares_of_ties as module
from everypairing.barriers import barrier_over
from everypairing.greatest import greatest_size, spare
from everypairing.lots import lots
from everypairing.webs import inner, less_tie, renamed


def lean_web(web):
    return (web[0], tuple(tie for tie in web[1] if plain.tie_kind(web, tie) != "idle"))


def is_covered(web):
    return (
        web[0] >= 2 and len(plain.pieces(web)) == 1 and plain.spare(web) == 0
        and lean_web(web) == web
    )


class Small(unittest.TestCase):
    def test_kinds(self):
        for web in plain.small_webs(21):
            kinds = {tie: plain.tie_kind(web, tie) for tie in web[1]}
            for kind, told in (("fixed", module.fixed_ties(web)), ("loose", module.loose_ties(web)),
                               ("idle", module.idle_ties(web))):
                self.assertEqual(told, [tie for tie in web[1] if kinds[tie] == kind])
            for tie in web[1]:
                self.assertEqual(module.tie_kind(web, tie), kinds[tie])

    def test_kind_between(self):
        for web in plain.small_webs(22, 12):
            for x in range(web[0]):
                for y in range(x):
                    tie = (y, x)
                    tied = (web[0], tuple(sorted(set(web[1]) | {tie})))
                    kind = plain.tie_kind(tied, tie)
                    self.assertEqual(module.kind_between(web, x, y), kind)
                    self.assertEqual(module.kind_between(web, y, x), kind)

    def test_with_and_avoiding(self):
        for web in plain.small_webs(23, 25):
            found = plain.greatest(web)
            for tie in web[1]:
                kind = plain.tie_kind(web, tie)
                pairing = module.greatest_with(web, tie)
                if kind == "idle":
                    self.assertIsNone(pairing)
                else:
                    self.assertIn(pairing, found)
                    self.assertIn(tie, pairing)
                pairing = module.greatest_avoiding(web, tie)
                if kind == "fixed":
                    self.assertIsNone(pairing)
                else:
                    self.assertIn(pairing, found)
                    self.assertNotIn(tie, pairing)

    def test_lean_and_covered(self):
        covered = 0
        for web in plain.small_webs(24):
            lean = lean_web(web)
            self.assertEqual(module.lean_web(web), lean)
            self.assertEqual(module.lean_pieces(web), plain.pieces(lean))
            self.assertIs(module.is_covered(web), is_covered(web))
            covered += is_covered(web)
        self.assertGreater(covered, 5)

    def test_shares(self):
        for web in plain.small_webs(25, 30):
            found = plain.greatest(web)
            counts = tuple(sum(tie in pairing for pairing in found) for tie in web[1])
            self.assertEqual(module.tie_counts(web), counts)
            self.assertEqual(module.tie_shares(web), tuple(plain.share(web, (t,)) for t in web[1]))
            alone = [sum(plain.mate(p, x) is None for p in found) for x in range(web[0])]
            self.assertEqual(module.alone_shares(web), tuple(
                plain.pair_of(Fraction(many, len(found))) for many in alone))

    def test_share_of_each_tuple_of_ties(self):
        for web in plain.small_webs(26, 6):
            self.assertEqual(module.share_of(web, ()), (1, 1))
            for many in (1, 2, 3):
                for ties in combinations(web[1], many):
                    self.assertEqual(module.share_of(web, ties), plain.share(web, ties))
            common = [t for t in web[1] if 0 in t]
            if len(common) > 1:
                self.assertEqual(module.share_of(web, tuple(common)), (0, 1))

    def test_d1_to_d4(self):
        for web in plain.small_webs(27, 10):
            d = plain.spare(web)
            opened, holding, closed = plain.lots(web)
            all_barriers = plain.barriers(web)
            leaves = [plain.alone(web, pairing) for pairing in plain.greatest(web)]
            for tie in web[1]:
                kind = module.tie_kind(web, tie)
                barred = any(set(tie) <= set(lot) for lot in all_barriers)
                self.assertEqual(kind == "idle", barred)
                self.assertEqual(plain.spare_without(web, tie), d + 2 if barred else d)
                self.assertEqual(kind == "fixed", plain.spare(less_tie(web, tie)) == d + 2)
                if set(tie) & set(opened):
                    self.assertEqual(kind, "loose")
                elif set(tie) & set(holding):
                    self.assertEqual(kind, "idle")
                else:
                    told = tuple(closed.index(x) for x in tie)
                    self.assertEqual(kind, module.tie_kind(inner(web, closed), told))
            for x, y in plain.possible_ties(web[0]):
                if (x, y) in web[1]:
                    continue
                both = any(x in lot and y in lot for lot in leaves)
                barred = any(x in lot and y in lot for lot in all_barriers)
                kind = "fixed" if both else "idle" if barred else "loose"
                self.assertEqual(module.kind_between(web, x, y), kind)
                change = {"fixed": -2, "idle": 2, "loose": 0}[kind]
                self.assertEqual(plain.spare_without(web, (x, y)), d + change)


class Large(unittest.TestCase):
    def test_d5_lean(self):
        for web in plain.large_webs(28) + plain.small_webs(28, 10):
            lean = module.lean_web(web)
            self.assertEqual(module.idle_ties(lean), [])
            self.assertEqual(greatest_size(lean), greatest_size(web))
            kept = dict(zip(web[1], module.tie_counts(web)))
            self.assertEqual(module.tie_counts(lean), tuple(kept[tie] for tie in lean[1]))
            fixed = [tuple(piece) for piece in module.lean_pieces(web) if len(piece) == 2]
            for tie in lean[1]:
                self.assertEqual(tie in fixed, module.tie_kind(web, tie) == "fixed")
            for piece in module.lean_pieces(web):
                part = inner(lean, piece)
                shares = module.tie_shares(part)
                for (x, y), share in zip(part[1], shares):
                    self.assertEqual(module.share_of(web, ((piece[x], piece[y]),)), share)

    def test_d6_sums(self):
        for web in plain.large_webs(29) + plain.small_webs(29, 10):
            shares = dict(zip(web[1], module.tie_shares(web)))
            alone = module.alone_shares(web)
            for share in list(shares.values()) + list(alone):
                self.assertIs(type(share), tuple)
                self.assertEqual(gcd(*share), 1)
                self.assertGreaterEqual(share[0], 0)
                self.assertGreaterEqual(share[1], 1)
            for place in range(web[0]):
                at = sum(Fraction(*share) for tie, share in shares.items() if place in tie)
                self.assertEqual(at + Fraction(*alone[place]), 1)
            self.assertEqual(sum(Fraction(*s) for s in shares.values()), greatest_size(web))
            self.assertEqual(sum(Fraction(*s) for s in alone), spare(web))

    def test_kinds_by_barriers(self):
        for web in plain.large_webs(30, 1):
            for tie in web[1][::5]:
                idle = module.tie_kind(web, tie) == "idle"
                self.assertEqual(barrier_over(web, tie) is not None, idle)
                self.assertEqual(module.greatest_with(web, tie) is None, idle)
                fixed = module.tie_kind(web, tie) == "fixed"
                avoiding = module.greatest_avoiding(web, tie)
                self.assertEqual(avoiding is None, fixed)
                if avoiding is not None:
                    self.assertEqual(len(avoiding), greatest_size(web))
                    self.assertNotIn(tie, avoiding)

    def test_known_numbers(self):
        self.assertEqual(module.tie_counts(plain.all_tied(12)), (945,) * 66)
        self.assertEqual(module.tie_shares(plain.all_tied(12)), ((1, 11),) * 66)
        self.assertEqual(module.alone_shares(plain.all_tied(11)), ((1, 11),) * 11)
        self.assertEqual(module.tie_counts(plain.untied(12)), ())
        self.assertEqual(module.tie_shares(plain.untied(12)), ())
        self.assertEqual(module.alone_shares(plain.untied(12)), ((1, 1),) * 12)
        self.assertEqual(module.alone_shares(plain.all_tied(12)), ((0, 1),) * 12)
        self.assertEqual(module.share_of(plain.all_tied(12), ((0, 1), (2, 3), (4, 5))), (1, 693))
        self.assertEqual(module.share_of(plain.line(12), tuple(plain.line(12)[1][::2])), (1, 1))
        self.assertEqual(module.share_of(plain.line(12), plain.line(12)[1]), (0, 1))

    def test_renamed(self):
        for web in plain.large_webs(31, 1):
            n = web[0]
            row = tuple(range(n))[::-1]
            told = renamed(web, row)
            kinds = {tuple(sorted((row[x], row[y]))): module.tie_kind(web, (x, y))
                     for x, y in web[1][::7]}
            for tie, kind in kinds.items():
                self.assertEqual(module.tie_kind(told, tie), kind)

    def test_covered_edges(self):
        self.assertIs(module.is_covered((1, ())), False)
        self.assertIs(module.is_covered((2, ())), False)
        self.assertIs(module.is_covered((2, ((0, 1),))), True)
        self.assertIs(module.is_covered((4, ((0, 1), (2, 3)))), False)
        self.assertIs(module.is_covered(plain.ring(12)), True)
        self.assertIs(module.is_covered(plain.all_tied(12)), True)
        self.assertIs(module.is_covered(plain.ring(11)), False)
        self.assertEqual(module.lean_pieces((3, ())), [(0,), (1,), (2,)])

    def test_names_of_the_interface(self):
        web = (2, ((0, 1),))
        tie = (0, 1)
        self.assertEqual(module.fixed_ties(web=web), [tie])
        self.assertEqual(module.loose_ties(web=web), [])
        self.assertEqual(module.idle_ties(web=web), [])
        self.assertEqual(module.tie_kind(tie=tie, web=web), "fixed")
        self.assertEqual(module.kind_between(other_place=0, place=1, web=web), "fixed")
        self.assertEqual(module.greatest_with(tie=tie, web=web), (tie,))
        self.assertIsNone(module.greatest_avoiding(tie=tie, web=web))
        self.assertEqual(module.lean_web(web=web), web)
        self.assertEqual(module.lean_pieces(web=web), [(0, 1)])
        self.assertIs(module.is_covered(web=web), True)
        self.assertEqual(module.tie_counts(web=web), (1,))
        self.assertEqual(module.tie_shares(web=web), ((1, 1),))
        self.assertEqual(module.alone_shares(web=web), ((0, 1), (0, 1)))
        self.assertEqual(module.share_of(ties=(tie,), web=web), (1, 1))


if __name__ == "__main__":
    unittest.main()
