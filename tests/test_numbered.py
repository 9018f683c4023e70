import unittest

from tests import plain
from everypairing import numbered as module
from everypairing.counts import pairing_counts, pairing_total
from everypairing.errors import InvalidCount

GREAT = (10 ** 6, 10 ** 80)


class Small(unittest.TestCase):
    def test_all(self):
        for web in plain.small_webs(1, 12):
            found = plain.every_pairing(web)
            if len(found) > 80:
                found = found[:40] + found[-40:]
            every = plain.every_pairing(web)
            for pairing in found:
                number = every.index(pairing)
                behind = every[number + 1] if number + 1 < len(every) else None
                self.assertEqual(module.nth_pairing(web, number), pairing)
                self.assertEqual(module.pairing_rank(web, pairing), number)
                self.assertEqual(module.next_pairing(web, pairing), behind)
            self.assertIsNone(module.nth_pairing(web, len(every)))
            for number in GREAT:
                self.assertIsNone(module.nth_pairing(web, number))

    def test_of_one_size(self):
        for web in plain.small_webs(2, 12):
            every = plain.every_pairing(web)
            for size in range(len(max(every, key=len)) + 2):
                some = [pairing for pairing in every if len(pairing) == size]
                for number, pairing in list(enumerate(some))[:25] + list(enumerate(some))[-25:]:
                    behind = some[number + 1] if number + 1 < len(some) else None
                    self.assertEqual(module.nth_pairing(web, number, size), pairing)
                    self.assertEqual(module.pairing_rank(web, pairing, True), number)
                    self.assertEqual(module.next_pairing(web, pairing, True), behind)
                for number in (len(some),) + GREAT:
                    self.assertIsNone(module.nth_pairing(web, number, size))
            for size in GREAT:
                self.assertIsNone(module.nth_pairing(web, 0, size))

    def test_one_behind_the_other(self):
        for web in (plain.all_tied(6), plain.ring(7), plain.PRISM, plain.BOW):
            told = []
            pairing = ()
            while pairing is not None:
                told.append(pairing)
                pairing = module.next_pairing(web, pairing)
            self.assertEqual(told, plain.every_pairing(web))

    def test_size_nought(self):
        for web in (plain.untied(3), plain.ring(4)):
            self.assertEqual(module.nth_pairing(web, 0), ())
            self.assertEqual(module.nth_pairing(web, 0, 0), ())
            self.assertIsNone(module.nth_pairing(web, 1, 0))
            self.assertEqual(module.pairing_rank(web, ()), 0)
            self.assertEqual(module.pairing_rank(web, (), True), 0)
            self.assertIsNone(module.next_pairing(web, (), True))
        self.assertIsNone(module.next_pairing(plain.untied(3), ()))

    def test_sized_is_true_or_false(self):
        web = plain.line(4)
        for sized in (False, None, 0, 1, "", "x", [], (1,)):
            self.assertEqual(module.pairing_rank(web, ((2, 3),), sized), 4)
            self.assertEqual(module.next_pairing(web, ((0, 1),), sized), ((0, 1), (2, 3)))
        self.assertEqual(module.pairing_rank(web, ((2, 3),), True), 2)
        self.assertEqual(module.next_pairing(web, ((0, 1),), True), ((1, 2),))

    def test_wrong_numbers(self):
        web = plain.line(4)
        for wrong in (-1, True, False, "0", [], (), 0.0):
            with self.assertRaises(InvalidCount):
                module.nth_pairing(web, wrong)
            with self.assertRaises(InvalidCount):
                module.nth_pairing(web, 0, wrong)
        with self.assertRaises(InvalidCount):
            module.nth_pairing(web, None)
        self.assertEqual(module.nth_pairing(web, 4, None), ((2, 3),))


class Large(unittest.TestCase):
    def test_k6(self):
        for web in plain.large_webs(3, 1):
            total = pairing_total(web)
            for number in sorted({0, 1, total // 3, total // 2, total - 2, total - 1} & set(range(total))):
                pairing = module.nth_pairing(web, number)
                self.assertEqual(module.pairing_rank(web, pairing), number)
                behind = module.next_pairing(web, pairing)
                self.assertEqual(behind is None, number == total - 1)
                if behind is not None:
                    self.assertLess(pairing, behind)
                    self.assertEqual(module.pairing_rank(web, behind), number + 1)
            self.assertIsNone(module.nth_pairing(web, total))
            for size, count in enumerate(pairing_counts(web)):
                for number in {0, count // 2, count - 1}:
                    pairing = module.nth_pairing(web, number, size)
                    self.assertEqual(len(pairing), size)
                    self.assertEqual(module.pairing_rank(web, pairing, True), number)
                self.assertIsNone(module.nth_pairing(web, count, size))

    def test_k7(self):
        for web in plain.large_webs(4, 1):
            for number in (1, pairing_total(web) // 2):
                pairing = module.nth_pairing(web, number)
                if pairing:
                    u = pairing[-1][0]
                    rest = plain.without(web, [x for x in range(web[0]) if x <= u
                                               or x in sum(pairing, ())])
                    count = 1 if rest is None else pairing_total(rest)
                    rank = module.pairing_rank(web, pairing)
                    for at in {0, count // 2, count - 1}:
                        told = module.nth_pairing(web, rank + at)
                        self.assertEqual(told[:len(pairing)], pairing)
                    behind = module.nth_pairing(web, rank + count)
                    self.assertTrue(behind is None or behind[:len(pairing)] != pairing)

    def test_known_ones(self):
        web = plain.all_tied(12)
        last = tuple((x, x + 1) for x in range(10, 11))
        self.assertEqual(module.nth_pairing(web, 140151), last)
        self.assertIsNone(module.nth_pairing(web, 140152))
        full = tuple((x, 11 - x) for x in range(6))
        self.assertEqual(module.nth_pairing(web, 10394, 6), full)
        self.assertIsNone(module.next_pairing(web, full, True))
        self.assertEqual(module.pairing_rank(web, full, True), 10394)
        self.assertEqual(module.nth_pairing(plain.untied(12), 0), ())
        self.assertIsNone(module.nth_pairing(plain.untied(12), 1))

    def test_names_of_the_interface(self):
        web = plain.line(4)
        self.assertEqual(module.nth_pairing(number=1, web=web), ((0, 1),))
        self.assertEqual(module.nth_pairing(size=2, number=0, web=web), ((0, 1), (2, 3)))
        self.assertEqual(module.pairing_rank(sized=True, pairing=((1, 2),), web=web), 1)
        self.assertEqual(module.next_pairing(sized=False, pairing=(), web=web), ((0, 1),))


if __name__ == "__main__":
    unittest.main()
