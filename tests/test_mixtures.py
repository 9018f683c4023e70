import random
import unittest
from fractions import Fraction
from itertools import combinations
from math import gcd

from tests import plain
from everypairing import mixtures as module
from everypairing.errors import InvalidShares, NotMixture, TooMany
from everypairing.webs import is_pairing

FOUR = plain.all_tied(4)
HALVES = ((1, 2), (1, 2), (0, 1), (0, 1), (1, 2), (1, 2))
FIRST, SECOND = ((0, 1), (2, 3)), ((0, 2), (1, 3))


def mixed(web, pairings, parts):
    """The shares of a mixture of these pairings."""
    return tuple(plain.pair_of(sum(
        (part for part, pairing in zip(parts, pairings) if tie in pairing), Fraction(0)))
        for tie in web[1])


def drawn_parts(source, many, bottom):
    """Fractions above 0 with the sum 1 and bottoms of at most so much."""
    cuts = sorted(source.sample(range(1, bottom), many - 1))
    return [Fraction(high - low, bottom) for low, high in zip([0] + cuts, cuts + [bottom])]


def good_shares(seed, many):
    """Tuples (web, shares) of shares that are made of full pairings."""
    source = random.Random(seed)
    webs = [web for n in (2, 4, 6, 8) for web in plain.chance_webs(n, many, seed)]
    webs += [plain.all_tied(n) for n in (2, 4, 6, 8)] * 3 + [plain.ring(8), plain.PRISM]
    found = []
    for web in webs:
        full = plain.full_pairings(web)
        if full:
            some = source.sample(full, source.randint(1, min(len(full), 9)))
            bottom = source.choice((10, 97, 360, 1000))
            parts = drawn_parts(source, len(some), bottom)
            found.append((web, mixed(web, some, parts)))
    return found


def rounds_of(n):
    """Shares of halves along odd rounds that part n places, by the ties of all places."""
    for cut in range(3, n - 2) if n > 5 else [n]:
        parts = [range(cut), range(cut, n)]
        rows = [list(part) for part in parts if len(part) > 2]
        ties = [plain.tie_of(row[at - 1], row[at]) for row in rows for at in range(len(row))]
        yield {tie: Fraction(1, 2) for tie in ties}


def bad_shares(seed):
    """Tuples (web, shares) with halves along odd rounds, some with full pairings mixed in."""
    source = random.Random(seed)
    found = []
    for n in (3, 5, 6, 7, 8):
        web = plain.all_tied(n)
        for halves in rounds_of(n):
            found.append((web, tuple(plain.pair_of(halves.get(tie, Fraction(0))) for tie in web[1])))
            for bottom in (3, 5, 10, 100, 250):
                if n % 2 == 0:
                    row = source.sample(range(n), n)
                    pairing = {plain.tie_of(row[at], row[at + 1]) for at in range(0, n, 2)}
                    part = Fraction(source.randint(1, bottom - 1), bottom)
                    found.append((web, tuple(plain.pair_of(
                        part * (tie in pairing) + (1 - part) * halves.get(tie, Fraction(0)))
                        for tie in web[1])))
    return found


def crossing(web, shares, lot):
    return sum((Fraction(*share) for (x, y), share in zip(web[1], shares)
                if (x in lot) != (y in lot)), Fraction(0))


def first_thin(web, shares):
    """The first lot in lot order of an odd number of places that is crossed by less than 1."""
    for many in range(3, web[0] + 1, 2):
        for lot in combinations(range(web[0]), many):
            if crossing(web, shares, lot) < 1:
                return lot
    return None


def is_mixture(web, shares, parts):
    """Straight from [32], for a list of tuples of a fraction and a full pairing."""
    full = all(2 * len(pairing) == web[0] and is_pairing(web, pairing) for _, pairing in parts)
    lowest = all(top > 0 and gcd(top, bottom) == 1 for (top, bottom), _ in parts)
    pairings = [pairing for _, pairing in parts]
    if not full or not lowest or len(set(pairings)) < len(pairings):
        return False
    numbers = [Fraction(*part) for part, _ in parts]
    return sum(numbers) == 1 and mixed(web, pairings, numbers) == shares


class Mixtures(unittest.TestCase):
    def test_made_of_full_pairings(self):
        for web, shares in good_shares(1, 12):
            parts = module.mixture(web, shares)
            self.assertTrue(is_mixture(web, shares, parts), (web, shares, parts))
            self.assertIs(module.is_mixture(web, shares, parts), True)
            self.assertIs(module.is_mixture(web, shares, parts[::-1]), True)
            self.assertLessEqual(len(parts), len(web[1]) + 1)
            # J1, J2
            self.assertIsNone(first_thin(web, shares))
            for tie, share in zip(web[1], shares):
                having = [tie in pairing for _, pairing in parts]
                self.assertEqual(any(having), share[0] > 0)
                self.assertEqual(all(having), share == (1, 1))

    def test_j3_weights(self):
        source = random.Random(2)
        for web, shares in good_shares(2, 6):
            weights = [source.randint(0, 50) for _ in web[1]]
            total = sum(Fraction(*share) * weight for share, weight in zip(shares, weights))
            value = dict(zip(web[1], weights))
            heaviest = max(sum(value[tie] for tie in one) for one in plain.full_pairings(web))
            self.assertLessEqual(total, heaviest)

    def test_without_a_mixture(self):
        thin = 0
        for web, shares in bad_shares(3):
            lot = first_thin(web, shares)
            if lot is None:
                parts = module.mixture(web, shares)
                self.assertTrue(is_mixture(web, shares, parts))
                continue
            thin += 1
            with self.assertRaises(NotMixture) as caught:
                module.mixture(web, shares)
            self.assertEqual(caught.exception.lot, lot)
        self.assertGreater(thin, 10)

    def test_odd_numbers_of_places(self):
        for n in (3, 5, 7):
            with self.assertRaises(NotMixture) as caught:
                module.mixture(plain.ring(n), ((1, 2),) * n)
            self.assertEqual(caught.exception.lot, tuple(range(n)))
        web = (5, ((0, 1), (2, 3), (2, 4), (3, 4)))
        with self.assertRaises(NotMixture) as caught:
            module.mixture(web, ((1, 1), (1, 2), (1, 2), (1, 2)))
        self.assertEqual(caught.exception.lot, (2, 3, 4))

    def test_two_sided_webs_have_one(self):
        for n in (4, 6, 8):
            web = plain.ring(n)
            shares = tuple((1, 3) if at % 2 else (2, 3) for at in range(n))
            told = {tie: Fraction(*share) for tie, share in zip(
                sorted(web[1], key=lambda tie: (tie[1] - tie[0] > 1) * n + tie[0]), shares)}
            wanted = tuple(plain.pair_of(told[tie]) for tie in web[1])
            self.assertEqual(len(module.mixture(web, wanted)), 2)

    def test_too_many_places(self):
        for n in (9, 10, 12):
            with self.assertRaises(TooMany) as caught:
                module.mixture(plain.ring(n), ((1, 2),) * n)
            self.assertEqual(caught.exception.count, 8)
        with self.assertRaises(InvalidShares):
            module.mixture(plain.ring(9), ((1, 2),) * 8)
        self.assertEqual(len(module.mixture(plain.ring(8), ((1, 2),) * 8)), 2)
        # is_mixture and crossing are told for any web.
        web = plain.ring(12)
        halves = ((1, 2),) * 12
        parts = [((1, 2), plain.full_pairings(web)[at]) for at in (0, 1)]
        self.assertIs(module.is_mixture(web, halves, parts), True)
        self.assertEqual(module.crossing(web, halves, (0, 1, 2, 6)), (2, 1))

    def test_great_bottoms(self):
        web = plain.all_tied(8)
        full = plain.full_pairings(web)
        source = random.Random(4)
        for primes in ((997, 991), (31, 29), (13, 11, 7)):
            parts = [Fraction(1)]
            for prime in primes:
                parts = [part * piece for part in parts
                         for piece in (Fraction(1, prime), Fraction(prime - 1, prime))]
            shares = mixed(web, source.sample(full, len(parts)), parts)
            told = module.mixture(web, shares)
            self.assertTrue(is_mixture(web, shares, told))
            self.assertLess(max(bottom for (_, bottom), _ in told), 10 ** 90)


class Bent(unittest.TestCase):
    good = [((1, 2), FIRST), ((1, 2), SECOND)]

    def test_bent_in_every_way(self):
        first, second = self.good
        self.assertIs(module.is_mixture(FOUR, HALVES, self.good), True)
        self.assertIs(module.is_mixture(FOUR, HALVES, [second, first]), True)
        third = ((0, 3), (1, 2))
        for value in plain.wrong_in(self.good) + [
            [], [first], [second], self.good + [((0, 1), third)], self.good + [first],
            [((2, 4), FIRST), second], [((1, 4), FIRST), ((1, 4), FIRST), second],
            [((1, 3), FIRST), ((2, 3), SECOND)], [((1, 2), FIRST), ((1, 2), third)],
            [((1, 1), FIRST)], [((-1, -2), FIRST), second], [((1, -2), FIRST), second],
            [((0, 1), FIRST), second], [((1, 2), FIRST), ((1, 2), SECOND[:1])],
            [((1, 2), FIRST[::-1]), second], [((1, 2), list(FIRST)), second],
            [([1, 2], FIRST), second], [[(1, 2), FIRST], second], [((1, 2, 0), FIRST), second],
            [((True, 2), FIRST), second], [((1, 2), ((False, 1), (2, 3))), second],
            [((1, 2), ((0, True), (2, 3))), second], [((1, 2), FIRST, ()), second], [(FIRST, (1, 2))],
            [((1, 2), ()), ((1, 2), ())], [(None, FIRST), second], [(1, FIRST), second],
            [((1, 2), None), second], [("1/2", FIRST), second], [((1, 2), ((0, 1), (1, 2))), second],
            [((3, 2), FIRST), ((-1, 2), SECOND)], [((1, 0), FIRST), second], self.good * 2,
            [((10 ** 80, 2 * 10 ** 80), FIRST), second], [((1, 2), FIRST)] * 900,
        ]:
            self.assertIs(module.is_mixture(FOUR, HALVES, value), False, value)

    def test_a_fraction_of_one(self):
        web = (2, ((0, 1),))
        self.assertEqual(module.mixture(web, ((1, 1),)), [((1, 1), ((0, 1),))])
        self.assertIs(module.is_mixture(web, ((1, 1),), [((1, 1), ((0, 1),))]), True)
        self.assertIs(module.is_mixture(web, ((1, 1),), [((True, 1), ((0, 1),))]), False)
        self.assertIs(module.is_mixture(web, ((1, 1),), [((1, True), ((0, 1),))]), False)

    def test_two_mixtures_of_the_same_shares(self):
        web = plain.all_tied(6)
        full = plain.full_pairings(web)
        shares = ((1, 5),) * 15
        self.assertIs(module.is_mixture(web, shares, [((1, 15), one) for one in full]), True)
        self.assertIs(module.is_mixture(web, shares, [((1, 14), one) for one in full[:14]]), False)
        told = module.mixture(web, shares)
        self.assertTrue(is_mixture(web, shares, told))

    def test_one_fraction_changed(self):
        for web, shares in good_shares(5, 4):
            parts = module.mixture(web, shares)
            for at, (part, pairing) in enumerate(parts):
                for other in ((1, 1000), (1, 2), (1, 1), (part[0], part[1] + 1)):
                    bent = parts[:at] + [(other, pairing)] + parts[at + 1:]
                    self.assertIs(module.is_mixture(web, shares, bent),
                                  is_mixture(web, shares, bent))
                self.assertIs(module.is_mixture(web, shares, parts[:at] + parts[at + 1:]), False)

    def test_many_great_bottoms(self):
        web = plain.all_tied(12)
        shares = ((1, 11),) * 66
        full = plain.greatest(plain.all_tied(8))
        value = [((1, 10 ** 85 + at), one + ((8, 9), (10, 11))) for at, one in enumerate(full)] * 4
        self.assertIs(module.is_mixture(web, shares, value), False)
        self.assertIs(module.is_mixture(web, shares, value[:105]), False)


class Crossing(unittest.TestCase):
    def test_each_lot(self):
        for web, shares in good_shares(6, 3) + bad_shares(6)[:8]:
            for lot in plain.lots_in_order(web[0]):
                self.assertEqual(module.crossing(web, shares, lot),
                                 plain.pair_of(crossing(web, shares, lot)))
            self.assertEqual(module.crossing(web, shares, ()), (0, 1))
            self.assertEqual(module.crossing(web, shares, tuple(range(web[0]))), (0, 1))
            for place in range(web[0]):
                self.assertEqual(module.crossing(web, shares, (place,)), (1, 1))

    def test_a_place_without_ties(self):
        for web in ((1, ()), (3, ((0, 1),)), (12, ())):
            for shares in ((), ((1, 1),), ((1, 1),) * len(web[1])):
                for function, rest in ((module.crossing, ((),)), (module.mixture, ()),
                                       (module.is_mixture, ([],))):
                    with self.assertRaises(InvalidShares):
                        function(web, shares, *rest)

    def test_names_of_the_interface(self):
        self.assertEqual(module.crossing(lot=(0, 1), shares=HALVES, web=FOUR), (1, 1))
        self.assertEqual(len(module.mixture(shares=HALVES, web=FOUR)), 2)
        self.assertIs(module.is_mixture(value=Bent.good, shares=HALVES, web=FOUR), True)


if __name__ == "__main__":
    unittest.main()
