import unittest

from tests import plain
from everypairing.errors import InvalidRow
from everypairing import greatest


class Greatest(unittest.TestCase):
    def test_sizes_and_pairings_of_small_webs(self):
        for web in plain.small_webs(1):
            found = plain.greatest(web)
            self.assertEqual(greatest.greatest_size(web), len(found[0]))
            self.assertEqual(greatest.spare(web), web[0] - 2 * len(found[0]))
            self.assertIn(greatest.greatest_pairing(web), found)

    def test_is_greatest_of_each_pairing(self):
        for web in plain.small_webs(2, 20):
            found = plain.greatest(web)
            for pairing in plain.every_pairing(web):
                self.assertIs(greatest.is_greatest(web, pairing), pairing in found)

    def test_longer_rows_lengthen(self):
        for web in plain.small_webs(3, 20):
            most = plain.size(web)
            for pairing in plain.every_pairing(web):
                row = greatest.longer_row(web, pairing)
                if len(pairing) == most:
                    self.assertIsNone(row)
                    continue
                self.assertTrue(is_longer_row(web, pairing, row))
                self.assertIs(greatest.is_longer_row(web, pairing, row), True)
                more = greatest.lengthened(web, pairing, row)
                self.assertEqual(more, exchanged(pairing, row))
                self.assertEqual(len(more), len(pairing) + 1)
                self.assertLess(set(plain.alone(web, more)), set(plain.alone(web, pairing)))
                self.assertEqual(greatest.lengthened(web, pairing, row[::-1]), more)

    def test_completed(self):
        for web in plain.small_webs(4, 20):
            found = plain.greatest(web)
            for pairing in plain.every_pairing(web):
                more = greatest.completed(web, pairing)
                self.assertIn(more, found)
                self.assertLessEqual(set(plain.alone(web, more)), set(plain.alone(web, pairing)))
                if pairing in found:
                    self.assertEqual(plain.alone(web, more), plain.alone(web, pairing))

    def test_excess_of_each_lot(self):
        for web in plain.small_webs(5, 20):
            spare = plain.spare(web)
            excesses = [plain.excess(web, lot) for lot in plain.lots_in_order(web[0])]
            self.assertEqual(
                [greatest.excess(web, lot) for lot in plain.lots_in_order(web[0])], excesses)
            self.assertEqual(max(excesses), spare)
            self.assertEqual({number % 2 for number in excesses}, {web[0] % 2})
            self.assertEqual(plain.excess(web, greatest.spare_lot(web)), spare)

    def test_facts_of_large_webs(self):
        for web in plain.large_webs(1):
            pairing = greatest.greatest_pairing(web)
            spare = greatest.spare(web)
            lot = greatest.spare_lot(web)
            # B1: a pairing and a lot that meet show each other to be right.
            self.assertEqual(len(set(sum(pairing, ()))), 2 * len(pairing))
            self.assertLessEqual(set(pairing), set(web[1]))
            self.assertEqual(len(plain.alone(web, pairing)), spare)
            self.assertEqual(plain.excess(web, lot), spare)
            self.assertEqual(greatest.excess(web, lot), spare)
            self.assertEqual(web[0] - spare, 2 * greatest.greatest_size(web))
            self.assertIsNone(greatest.longer_row(web, pairing))
            self.assertIs(greatest.is_greatest(web, pairing), True)
            self.check_rows_up(web, pairing)

    def check_rows_up(self, web, found):
        some = ()
        for count in range(len(found)):
            self.assertEqual(len(some), count)
            self.assertIs(greatest.is_greatest(web, some), False)
            more = greatest.completed(web, some)
            self.assertEqual(len(more), len(found))
            self.assertLessEqual(set(plain.alone(web, more)), set(plain.alone(web, some)))
            row = greatest.longer_row(web, some)
            self.assertTrue(is_longer_row(web, some, row))
            some = greatest.lengthened(web, some, row)

    def test_full_exactly_without_an_excess(self):
        for web in plain.small_webs(6, 10):
            high = any(greatest.excess(web, lot) > 0 for lot in plain.lots_in_order(web[0]))
            self.assertEqual(high, greatest.spare(web) > 0)

    def test_edges(self):
        self.assertEqual(greatest.greatest_pairing((1, ())), ())
        self.assertEqual(greatest.spare((1, ())), 1)
        self.assertEqual(greatest.spare((12, ())), 12)
        self.assertEqual(greatest.excess((3, ()), (0, 1, 2)), -3)
        self.assertEqual(greatest.completed((1, ()), ()), ())


def is_longer_row(web, pairing, row):
    """Straight from [11], for a tuple of places."""
    if len(row) < 2 or len(row) % 2 or len(set(row)) < len(row):
        return False
    if plain.mate(pairing, row[0]) is not None or plain.mate(pairing, row[-1]) is not None:
        return False
    for at in range(len(row) - 1):
        tie = plain.tie_of(row[at], row[at + 1])
        if tie not in web[1] or (tie in pairing) != (at % 2 == 1):
            return False
    return True


def exchanged(pairing, row):
    return tuple(sorted(set(pairing) ^ {plain.tie_of(x, y) for x, y in zip(row, row[1:])}))


class LongerRows(unittest.TestCase):
    web = (6, ((0, 1), (0, 3), (1, 2), (1, 4), (2, 3), (3, 4), (4, 5)))
    pairing = ((1, 2), (3, 4))

    def rows_of(self, web, most):
        rows = [()]
        for row in rows:
            if len(row) < most:
                rows.extend([row + (x,) for x in range(web[0])])
        return rows

    def test_all_rows_of_places(self):
        for web in plain.every_web(3) + plain.chance_webs(4, 12):
            rows = self.rows_of(web, 5)
            for pairing in plain.every_pairing(web):
                for row in rows:
                    self.assertIs(
                        greatest.is_longer_row(web, pairing, row), is_longer_row(web, pairing, row))

    def test_bent_rows(self):
        good = (0, 1, 2, 3, 4, 5)
        self.assertIs(greatest.is_longer_row(self.web, self.pairing, good), True)
        self.assertIs(greatest.is_longer_row(self.web, self.pairing, good[::-1]), True)
        bent = [
            None, True, 0, "", "abcdef", (), [], list(good), good[:-1], good[1:], good[:4],
            good[:2], (0,), (0, 0), good + (0,), good + (4, 5), (0, 1, 2, 3, 4, 4),
            (0, True, 2, 3, 4, 5), (False, 1, 2, 3, 4, 5), (0, 1, 2, 3, 4, 6), (0, -5, 2, 3, 4, 5),
            (0, "1", 2, 3, 4, 5), (0, None, 2, 3, 4, 5), (0, (1,), 2, 3, 4, 5), (0, [1], 2, 3, 4, 5),
            (0, 1, 2, 3, 4, [5]), (0, 1, 4, 3, 2, 5), (0, 2, 1, 3, 4, 5), (0, 3, 2, 1, 4, 5),
            (0, 1, 2, 1, 4, 5), ((0, 1), (1, 2)), (good,), [good], (0, 5), (5, 0), 10 ** 80,
        ]
        for row in bent:
            self.assertIs(greatest.is_longer_row(self.web, self.pairing, row), False, row)
            with self.assertRaises(InvalidRow):
                greatest.lengthened(self.web, self.pairing, row)

    def test_ends_must_be_alone(self):
        self.assertIs(greatest.is_longer_row((4, ((0, 1), (1, 2), (2, 3))), ((0, 1),), (1, 2)), False)
        self.assertIs(greatest.is_longer_row((4, ((0, 1), (1, 2), (2, 3))), ((0, 1),), (2, 3)), True)
        self.assertIs(greatest.is_longer_row((4, ((0, 1), (1, 2), (2, 3))), ((0, 1),), (0, 1)), False)

    def test_row_within_the_web_only(self):
        web = (4, ((0, 1), (2, 3)))
        self.assertIs(greatest.is_longer_row(web, (), (0, 2)), False)
        self.assertIs(greatest.is_longer_row(web, ((0, 1),), (2, 3)), True)


if __name__ == "__main__":
    unittest.main()
