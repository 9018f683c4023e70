import unittest
from itertools import combinations
from math import comb, factorial

from tests import plain
from everypairing import counts as module
from everypairing.greatest import greatest_size
from everypairing.webs import inner, less_tie, mirrored, renamed


def counted(web):
    sizes = [len(pairing) for pairing in plain.every_pairing(web)]
    return [sizes.count(size) for size in range(max(sizes) + 1)]


def times(web, place, lot):
    return sum(plain.tie_of(place, other) in web[1] for other in lot if other != place)


def is_even_lot(web, lot):
    return lot != () and all(times(web, x, lot) % 2 == 0 for x in range(web[0]))


def number(counts, size):
    return counts[size] if 0 <= size < len(counts) else 0


def without(web, lot):
    """The numbers of pairings of the web without the lot; of no place there is just ()."""
    rest = tuple(x for x in range(web[0]) if x not in lot)
    return module.pairing_counts(inner(web, rest)) if rest else [1]


class Small(unittest.TestCase):
    def test_against_all_pairings(self):
        for web in plain.small_webs(1, 40):
            counts = counted(web)
            self.assertEqual(module.pairing_counts(web), counts)
            self.assertIs(type(module.pairing_counts(web)), list)
            self.assertEqual(module.pairing_total(web), sum(counts))
            self.assertEqual(module.greatest_count(web), len(plain.greatest(web)))
            self.assertEqual(module.full_count(web), len(plain.full_pairings(web)))

    def test_even_and_odd_lots(self):
        even = odd = 0
        for web in plain.small_webs(2, 30):
            found = [lot for lot in plain.lots_in_order(web[0]) if is_even_lot(web, lot)]
            for lot in plain.lots_in_order(web[0]):
                self.assertIs(module.is_even_lot(web, lot), lot in found)
            lot = module.even_lot(web)
            told = module.odd_lots(web)
            is_even = len(plain.full_pairings(web)) % 2 == 0
            self.assertEqual(found != [], is_even)
            self.assertEqual(lot is None, not is_even)
            self.assertEqual(told is None, is_even)
            if is_even:
                even += 1
                self.assertIn(lot, found)
            else:
                odd += 1
                self.check_odd_lots(web, told)
        self.assertGreater(even, 50)
        self.assertGreater(odd, 20)

    def check_odd_lots(self, web, told):
        self.assertEqual(len(told), web[0])
        for x, lot in enumerate(told):
            fitting = [other for other in plain.lots_in_order(web[0]) if all(
                times(web, y, other) % 2 == (x == y) for y in range(web[0]))]
            self.assertEqual([lot], fitting)

    def test_the_empty_lot(self):
        for web in ((1, ()), (4, ()), plain.ring(4)):
            self.assertIs(module.is_even_lot(web, ()), False)
        self.assertIs(module.is_even_lot((1, ()), (0,)), True)
        self.assertEqual(module.even_lot((1, ())), (0,))


class Large(unittest.TestCase):
    webs = plain.large_webs(3, 2) + [plain.all_tied(11), plain.ring(11), (12, tuple(
        (x, y) for x in range(6) for y in range(6, 12)))]

    def test_k1_by_one_tie(self):
        for web in self.webs:
            counts = module.pairing_counts(web)
            self.assertEqual(len(counts), greatest_size(web) + 1)
            for tie in web[1][::11]:
                less = module.pairing_counts(less_tie(web, tie))
                rest = without(web, tie)
                for size in range(8):
                    self.assertEqual(number(counts, size),
                                     number(less, size) + number(rest, size - 1))

    def test_k2_and_k3(self):
        for web in self.webs:
            counts = module.pairing_counts(web)
            rests = [without(web, (x,)) for x in range(web[0])]
            for size in range(8):
                self.assertEqual(sum(number(rest, size) for rest in rests),
                                 (web[0] - 2 * size) * number(counts, size))
            most = len(counts) - 1
            for k in range(1, most):
                self.assertGreaterEqual(
                    counts[k] ** 2 * k * (most - k),
                    counts[k - 1] * counts[k + 1] * (k + 1) * (most - k + 1))

    def all_tied_count(self, a, b):
        return factorial(a) // (factorial(a - 2 * b) * factorial(b) * 2 ** b) if 2 * b <= a else 0

    def test_k4_mirrored(self):
        for web in self.webs:
            n = web[0]
            counts = module.pairing_counts(web)
            other = module.pairing_counts(mirrored(web))
            for j in range(n // 2 + 2):
                self.assertEqual(number(other, j), sum(
                    (-1) ** k * number(counts, k) * self.all_tied_count(n - 2 * k, j - k)
                    for k in range(j + 1)))

    def test_all_tied_and_untied(self):
        for n in range(1, 13):
            self.assertEqual(module.pairing_counts(plain.all_tied(n)),
                             [self.all_tied_count(n, k) for k in range(n // 2 + 1)])
            self.assertEqual(module.pairing_counts(plain.untied(n)), [1])
            self.assertEqual(module.full_count(plain.untied(n)), 0)
            self.assertEqual(module.pairing_total(plain.untied(n)), 1)
            self.assertEqual(module.greatest_count(plain.untied(n)), 1)
        self.assertEqual(module.pairing_total(plain.all_tied(12)), 140152)
        self.assertEqual(module.full_count(plain.all_tied(12)), 10395)
        self.assertEqual(module.full_count(plain.all_tied(11)), 0)
        self.assertEqual(module.greatest_count(plain.all_tied(11)), 10395)
        self.assertEqual(module.pairing_counts(plain.ring(12)), [
            1 if k == 0 else 12 * comb(12 - k, k) // (12 - k) for k in range(7)])

    def test_k5(self):
        for web in self.webs + plain.chance_webs(12, 10, 5):
            is_even = module.full_count(web) % 2 == 0
            lot = module.even_lot(web)
            told = module.odd_lots(web)
            self.assertEqual(lot is not None, is_even)
            self.assertEqual(told is None, is_even)
            if lot is not None:
                self.assertTrue(is_even_lot(web, lot))
                self.assertIs(module.is_even_lot(web, lot), True)
            else:
                self.assertIs(type(told), list)
                for x, odd in enumerate(told):
                    self.assertEqual(odd, tuple(sorted(odd)))
                    self.assertEqual([times(web, y, odd) % 2 for y in range(web[0])],
                                     [int(x == y) for y in range(web[0])])
            if web[0] % 2:
                self.assertIsNotNone(lot)

    def test_some_lots_of_large_webs(self):
        for web in self.webs:
            for lot in list(combinations(range(web[0]), 2))[::5] + list(
                    combinations(range(web[0]), 5))[::97]:
                self.assertIs(module.is_even_lot(web, lot), is_even_lot(web, lot))

    def test_renamed(self):
        for web in self.webs:
            row = tuple(range(web[0]))[::-1]
            self.assertEqual(module.pairing_counts(renamed(web, row)), module.pairing_counts(web))

    def test_names_of_the_interface(self):
        web = plain.ring(4)
        self.assertEqual(module.pairing_counts(web=web), [1, 4, 2])
        self.assertEqual(module.pairing_total(web=web), 7)
        self.assertEqual(module.greatest_count(web=web), 2)
        self.assertEqual(module.full_count(web=web), 2)
        self.assertIs(module.is_even_lot(lot=(0, 2), web=web), True)
        self.assertIn(module.even_lot(web=web), [(0, 2), (1, 3), (0, 1, 2, 3)])
        self.assertIsNone(module.odd_lots(web=web))


if __name__ == "__main__":
    unittest.main()
