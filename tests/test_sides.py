import random
import unittest
from itertools import combinations

from tests import plain
from everypairing import sides as module
from everypairing.errors import NotShort, NotTwoSided
from everypairing.greatest import greatest_size
from everypairing.lots import lots
from everypairing.webs import renamed

STEPS = (6, ((0, 3), (1, 3), (1, 4), (2, 4), (2, 5)))
TWO12 = (12, tuple((x, y) for x in range(6) for y in range(6, 12)))
FUNCTIONS = (module.sides, module.greatest_lack, module.short_ends, module.short_lot_count,
             module.least_cover, module.blocks, module.tie_parting)


def sides_of(web):
    """The sides by trying all ways to part the places; None if none fits."""
    n, ties = web
    least = [piece[0] for piece in plain.pieces(web)]
    for bits in range(1 << n):
        left = tuple(x for x in range(n) if bits >> x & 1)
        if set(least) <= set(left) and all((x in left) != (y in left) for x, y in ties):
            return (left, tuple(x for x in range(n) if x not in left))
    return None


def partners(web, lot):
    return tuple(sorted({y for tie in web[1] for x, y in (tie, tie[::-1]) if x in lot}))


def short_lots(web):
    left = sides_of(web)[0]
    found = [lot for many in range(len(left) + 1) for lot in combinations(left, many)]
    most = max(len(lot) - len(partners(web, lot)) for lot in found)
    return most, [lot for lot in found if len(lot) - len(partners(web, lot)) == most]


def least_covers(web):
    for many in range(web[0] + 1):
        found = [lot for lot in combinations(range(web[0]), many)
                 if all(x in lot or y in lot for x, y in web[1])]
        if found:
            return found
    return None


def blocks(web):
    """The tuple of [30], from the short lots and from all greatest pairings."""
    left, right = sides_of(web)
    found = short_lots(web)[1]
    least = set(left).intersection(*map(set, found))
    head = least | set(partners(web, least))
    every = {x for lot in found for x in lot}
    tail = set(left) - every | set(right) - set(partners(web, every))
    used = {tie for pairing in plain.greatest(web) for tie in pairing}
    rest = [x for x in range(web[0]) if x not in head | tail]
    parts = plain.components(rest, sorted(used))
    leaning = sorted({
        (i, j) for i, one in enumerate(parts) for j, two in enumerate(parts) if i != j
        for tie in web[1] for x, y in (tie, tie[::-1]) if x in one and x in left and y in two
    })
    return (tuple(sorted(head)), tuple(parts), tuple(leaning), tuple(sorted(tail)))


def large_webs(seed):
    source = random.Random(seed)
    found = [TWO12, plain.ring(12), plain.line(12), plain.untied(12), plain.stars(12),
             (12, tuple((x, y) for x in range(4) for y in range(4, 12))),
             (12, tuple((x, x + 6) for x in range(6)))]
    for n in (9, 10, 11, 12):
        for part in (0.2, 0.35, 0.5, 0.8):
            marks = [source.random() < 0.5 for _ in range(n)]
            found.append((n, tuple((x, y) for x, y in plain.possible_ties(n)
                                   if marks[x] != marks[y] and source.random() < part)))
    return found


class Small(unittest.TestCase):
    def test_sides(self):
        for web in plain.two_sided_webs(1, 60):
            self.assertEqual(module.sides(web), sides_of(web))

    def test_lots_of_places(self):
        for web in plain.two_sided_webs(2, 12) + plain.small_webs(2, 3)[-30:]:
            for lot in plain.lots_in_order(web[0]):
                self.assertEqual(module.partners(web, lot), partners(web, lot))
                covers = all(x in lot or y in lot for x, y in web[1])
                self.assertIs(module.is_cover(web, lot), covers)

    def test_short_lots(self):
        for web in plain.two_sided_webs(3, 60):
            most, found = short_lots(web)
            self.assertEqual(module.greatest_lack(web), most)
            least = tuple(x for x in found[0] if all(x in lot for lot in found))
            every = tuple(sorted({x for lot in found for x in lot}))
            self.assertEqual(module.short_ends(web), (least, every))
            self.assertIn(least, found)
            self.assertIn(every, found)
            self.assertEqual(module.short_lot_count(web), len(found))
            self.assertEqual([module.nth_short_lot(web, at) for at in range(len(found))], found)
            for number in (len(found), len(found) + 1, 10 ** 80):
                self.assertIsNone(module.nth_short_lot(web, number))

    def test_each_lot(self):
        for web in plain.two_sided_webs(4, 25):
            left, _ = sides_of(web)
            found = short_lots(web)[1]
            covers = []
            for lot in plain.lots_in_order(web[0]):
                self.assertIs(module.is_short_lot(web, lot), lot in found)
                if lot in found:
                    cover = module.cover_by(web, lot)
                    wanted = set(left) - set(lot) | set(partners(web, lot))
                    self.assertEqual(cover, tuple(sorted(wanted)))
                    covers.append(cover)
                else:
                    with self.assertRaises(NotShort):
                        module.cover_by(web, lot)
            self.assertEqual(sorted(covers), least_covers(web))
            self.assertIn(module.least_cover(web), covers)

    def test_blocks(self):
        many = 0
        for web in plain.two_sided_webs(5, 120):
            told = blocks(web)
            self.assertEqual(module.blocks(web), told)
            many += len(told[2]) > 0
            self.check_i4(web, told)
        self.assertGreater(many, 10)

    def check_i4(self, web, told):
        head, parts, leaning, tail = told
        left, _ = sides_of(web)
        for pairing in plain.greatest(web):
            for x, y in pairing:
                self.assertTrue(any(x in part and y in part for part in (head, tail) + parts))
        for part in parts:
            self.assertEqual(2 * len(set(part) & set(left)), len(part))
        least = [x for x in head if x in left]
        made = []
        for bits in range(1 << len(parts)):
            if all(bits >> j & 1 or not bits >> i & 1 for i, j in leaning):
                made.append(tuple(sorted(least + [
                    x for at, part in enumerate(parts) if bits >> at & 1
                    for x in part if x in left])))
        self.assertEqual(sorted(made), sorted(short_lots(web)[1]))

    def test_tie_parting(self):
        for web in plain.two_sided_webs(6, 60) + large_webs(6):
            found = module.tie_parting(web)
            ends = [x for tie in web[1] for x in tie]
            self.assertEqual(len(found), max([ends.count(x) for x in ends], default=0))
            self.assertEqual(sorted(tie for pairing in found for tie in pairing), list(web[1]))
            for pairing in found:
                self.assertEqual(len({x for tie in pairing for x in tie}), 2 * len(pairing))
                self.assertEqual(list(pairing), sorted(pairing))
                self.assertIs(type(pairing), tuple)
        self.assertEqual([len(pairing) for pairing in module.tie_parting(TWO12)], [6] * 6)

    def test_odd_rounds(self):
        odd = 0
        for web in plain.small_webs(7, 40) + plain.large_webs(7):
            two_sided = web[0] < 9 and sides_of(web) is not None
            calls = [lambda function=function: function(web) for function in FUNCTIONS]
            calls += [lambda: module.nth_short_lot(web, 0), lambda: module.is_short_lot(web, ()),
                      lambda: module.cover_by(web, ())]
            for call in calls:
                try:
                    call()
                    told = None
                except NotTwoSided as error:
                    told = error.odd_round
                except NotShort:
                    told = None
                if web[0] < 9:
                    self.assertEqual(told is None, two_sided)
                if told is not None:
                    odd += 1
                    self.check_round(web, told)
            self.assertIsInstance(module.partners(web, (0,)), tuple)
            self.assertIsInstance(module.is_cover(web, (0,)), bool)
        self.assertGreater(odd, 500)

    def check_round(self, web, places):
        self.assertIs(type(places), tuple)
        self.assertEqual(len(places) % 2, 1)
        self.assertGreaterEqual(len(places), 3)
        self.assertEqual(len(set(places)), len(places))
        for x, y in zip(places, places[1:] + places[:1]):
            self.assertIn(plain.tie_of(x, y), web[1])


class Large(unittest.TestCase):
    def test_i2_i3_i5(self):
        for web in large_webs(8):
            left, right = module.sides(web)
            size = greatest_size(web)
            self.assertEqual(module.greatest_lack(web), len(left) - size)
            cover = module.least_cover(web)
            self.assertEqual(len(cover), size)
            self.assertIs(module.is_cover(web, cover), True)
            many = module.short_lot_count(web)
            found = [module.nth_short_lot(web, at) for at in range(many)]
            self.assertEqual(found, sorted(set(found), key=lambda lot: (len(lot), lot)))
            self.assertEqual(module.short_ends(web), (found[0], found[-1]))
            self.assertIsNone(module.nth_short_lot(web, many))
            covers = {module.cover_by(web, lot) for lot in found}
            self.assertEqual(len(covers), many)
            for lot in found[:12]:
                self.assertIs(module.is_short_lot(web, lot), True)
                self.assertEqual(len(lot) - len(partners(web, lot)), module.greatest_lack(web))
                for other in found[-12:]:
                    self.assertIn(tuple(sorted(set(lot) & set(other))), found)
                    self.assertIn(tuple(sorted(set(lot) | set(other))), found)
            self.check_i5(web, left, right)

    def check_i5(self, web, left, right):
        head, parts, leaning, tail = module.blocks(web)
        opened, holding, closed = lots(web)
        self.assertEqual(set(opened), set(head) & set(left) | set(tail) & set(right))
        self.assertEqual(set(holding), set(head) & set(right) | set(tail) & set(left))
        self.assertEqual(sorted(x for part in parts for x in part), list(closed))
        self.assertEqual(list(parts), sorted(parts))
        self.assertEqual(list(leaning), sorted(leaning))

    def test_known_ones(self):
        self.assertEqual(module.sides(plain.untied(12)), (tuple(range(12)), ()))
        self.assertEqual(module.greatest_lack(plain.untied(12)), 12)
        self.assertEqual(module.short_ends(plain.untied(12)), (tuple(range(12)),) * 2)
        self.assertEqual(module.blocks(plain.untied(12)), (tuple(range(12)), (), (), ()))
        self.assertEqual(module.tie_parting(plain.untied(12)), [])
        self.assertEqual(module.least_cover(plain.untied(12)), ())
        self.assertEqual(module.sides((1, ())), ((0,), ()))
        self.assertEqual(module.blocks(TWO12), ((), (tuple(range(12)),), (), ()))
        self.assertEqual(module.short_lot_count(TWO12), 2)
        twos = (12, tuple((x, x + 6) for x in range(6)))
        self.assertEqual(module.short_lot_count(twos), 64)
        self.assertEqual(module.nth_short_lot(twos, 63), (0, 1, 2, 3, 4, 5))
        self.assertEqual(module.blocks((3, ((0, 2), (1, 2)))), ((0, 1, 2), (), (), ()))
        self.assertEqual(module.blocks((3, ((0, 1), (0, 2)))), ((), (), (), (0, 1, 2)))

    def test_renamed(self):
        for web in large_webs(9):
            row = tuple(range(web[0]))[::-1]
            told = renamed(web, row)
            self.assertEqual(len(module.tie_parting(told)), len(module.tie_parting(web)))
            self.assertEqual(len(module.least_cover(told)), len(module.least_cover(web)))
            self.assertEqual(sum(map(len, module.blocks(told)[1])),
                             sum(map(len, module.blocks(web)[1])))

    def test_names_of_the_interface(self):
        self.assertEqual(module.sides(web=STEPS), ((0, 1, 2), (3, 4, 5)))
        self.assertEqual(module.partners(lot=(0,), web=STEPS), (3,))
        self.assertIs(module.is_cover(lot=(0,), web=STEPS), False)
        self.assertEqual(module.greatest_lack(web=STEPS), 0)
        self.assertEqual(module.short_ends(web=STEPS), ((), (0, 1, 2)))
        self.assertEqual(module.short_lot_count(web=STEPS), 4)
        self.assertEqual(module.nth_short_lot(number=1, web=STEPS), (0,))
        self.assertIs(module.is_short_lot(lot=(0,), web=STEPS), True)
        self.assertEqual(module.cover_by(lot=(0,), web=STEPS), (1, 2, 3))
        self.assertEqual(len(module.least_cover(web=STEPS)), 3)
        self.assertEqual(len(module.blocks(web=STEPS)), 4)
        self.assertEqual(len(module.tie_parting(web=STEPS)), 2)


if __name__ == "__main__":
    unittest.main()
