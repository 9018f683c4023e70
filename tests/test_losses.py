import random
import unittest
from itertools import combinations

from tests import plain
from everypairing.errors import InvalidCount, InvalidLot, InvalidPairing, InvalidTies
from everypairing.errors import InvalidWeights, NotFull, TooMany
from everypairing.greatest import excess, greatest_size, is_greatest, spare
from everypairing.losses import best_leaving, greatest_holding, greatest_leaving, is_loss
from everypairing.losses import least_loss, leaving_lots, lost, unextended, unfull_without_two
from everypairing.sides import sides
from everypairing.webs import alone, is_pairing, pieces

MOST = 1000000


def small():
    return plain.small_webs(many=20) + plain.chance_webs(8, 6)


def less_ties(web, ties):
    return (web[0], tuple(tie for tie in web[1] if tie not in ties))


def in_lot_order(lots):
    return sorted(lots, key=lambda lot: (len(lot), lot))


def full_webs(seed=3, many=25):
    """Webs with a full pairing, of 2 to 8 places."""
    webs = plain.small_webs(seed, many) + plain.chance_webs(8, 12, seed)
    webs += [plain.all_tied(8), plain.ring(8), plain.line(8)]
    webs += [web for web in plain.two_sided_webs(seed, 40)]
    webs.append((8, tuple((x, y) for x in range(4) for y in range(4, 8))))
    return [web for web in webs if plain.spare(web) == 0]


class Leaving(unittest.TestCase):
    def test_against_all_greatest_pairings(self):
        for web in small():
            found = plain.greatest(web)
            left = in_lot_order({plain.alone(web, pairing) for pairing in found})
            self.assertEqual(leaving_lots(web), left)
            for lot in plain.lots_in_order(web[0])[:60]:
                self.check_leaving(web, lot, [one for one in left if set(lot) <= set(one)])
            for pairing in plain.every_pairing(web)[:60]:
                having = [one for one in found if set(pairing) <= set(one)]
                told = greatest_holding(web, pairing)
                if having:
                    self.assertIn(told, having)
                else:
                    self.assertIsNone(told)

    def check_leaving(self, web, lot, fitting):
        told = greatest_leaving(web, lot)
        if not fitting:
            self.assertIsNone(told)
            return
        self.assertTrue(is_pairing(web, told))
        self.assertTrue(is_greatest(web, told))
        self.assertTrue(set(lot) <= set(alone(web, told)))

    def test_of_nothing(self):
        for web in plain.small_webs(many=5) + plain.large_webs():
            for told in (greatest_holding(web, ()), greatest_leaving(web, ())):
                self.assertTrue(is_greatest(web, told))
        for web in (plain.line(4), plain.all_tied(12), plain.ring(12)):
            self.assertEqual(leaving_lots(web), [()])
            self.assertEqual(best_leaving(web, (5,) * web[0]), (0, ()))
        self.assertEqual(leaving_lots(plain.untied(12)), [tuple(range(12))])
        self.assertEqual(greatest_leaving(plain.untied(12), tuple(range(12))), ())
        self.assertEqual(leaving_lots(plain.ring(11)), [(x,) for x in range(11)])

    def test_the_greatest_sum(self):
        source = random.Random(2)
        for web in small() + plain.large_webs():
            left = leaving_lots(web)
            for worths in [(0,) * web[0], (MOST,) * web[0], tuple(range(web[0])),
                           tuple(source.randrange(4) for _ in range(web[0])),
                           tuple(source.randrange(MOST + 1) for _ in range(web[0]))]:
                most = max(sum(worths[x] for x in lot) for lot in left)
                told = best_leaving(web, worths)
                self.assertIs(type(told), tuple)
                self.assertEqual(told[0], most)
                self.assertIn(told[1], left)
                self.assertEqual(sum(worths[x] for x in told[1]), most)

    def test_facts_on_large_webs(self):
        source = random.Random(9)
        for web in plain.large_webs() + [(12, tuple((x, y) for x in range(4) for y in range(4, 12)))]:
            left = leaving_lots(web)
            self.assertEqual(left, in_lot_order(set(left)))
            self.assertEqual({len(lot) for lot in left}, {spare(web)})
            self.check_exchange(left, source)
            for _ in range(20):
                # N3
                many = source.randrange(spare(web) + 2)
                lot = tuple(sorted(source.sample(range(web[0]), min(many, web[0]))))
                inside = any(set(lot) <= set(other) for other in left)
                self.assertEqual(greatest_leaving(web, lot) is not None, inside)

    def check_exchange(self, left, source):
        """N1"""
        for _ in range(20):
            one, other = source.choice(left), source.choice(left)
            for x in set(one) - set(other):
                found = [y for y in set(other) - set(one)
                         if tuple(sorted(set(one) - {x} | {y})) in left]
                self.assertTrue(found)

    def test_taking_by_falling_worths(self):
        # N2, also with worths of 0
        for web in small()[::3]:
            worths = tuple((7 * x) % 5 for x in range(web[0]))
            taken = ()
            for x in sorted(range(web[0]), key=lambda place: -worths[place]):
                more = tuple(sorted(taken + (x,)))
                if greatest_leaving(web, more) is not None:
                    taken = more
            self.assertIn(taken, leaving_lots(web))
            self.assertEqual(sum(worths[x] for x in taken), best_leaving(web, worths)[0])

    def test_worths_that_are_none(self):
        web = plain.line(3)
        for worths in [(1, 1), (1, 1, 1, 1), (1, -1, 1), (1, MOST + 1, 1), (1, True, 1), [1, 1, 1],
                       (1, None, 1), ("1", 1, 1), (), None, 3, ((1,), 1, 1)]:
            with self.assertRaises(InvalidWeights):
                best_leaving(web, worths)
        self.assertEqual(best_leaving(web, (0, MOST, 0))[0], 0)
        self.assertEqual(best_leaving(web, (0, 1, MOST))[0], MOST)

    def test_wrong_pairings_and_lots(self):
        web = plain.line(4)
        for pairing in [((0, 2),), ((0, 1), (1, 2)), [(0, 1)], None]:
            with self.assertRaises(InvalidPairing):
                greatest_holding(web, pairing)
        for lot in [(4,), (1, 0), [0], None, (True,)]:
            with self.assertRaises(InvalidLot):
                greatest_leaving(web, lot)


def cut_number(web):
    """The least number of ties between unlike parts, as N5 tells it, over all ways to part."""
    best = None
    spare_now = plain.spare(web)
    for lot in plain.lots_in_order(web[0]):
        rest = [x for x in range(web[0]) if x not in lot]
        for parts in partings(rest):
            if sum(len(part) % 2 for part in parts) > spare_now + len(lot):
                part_of = {x: at for at, part in enumerate(parts) for x in part}
                cut = sum(x in part_of and y in part_of and part_of[x] != part_of[y]
                          for x, y in web[1])
                best = cut if best is None else min(best, cut)
    return best


def partings(places):
    if not places:
        return [[]]
    found = []
    for parts in partings(places[1:]):
        found.append(parts + [[places[0]]])
        for at, part in enumerate(parts):
            found.append(parts[:at] + [part + [places[0]]] + parts[at + 1:])
    return found


def least_number(web):
    """How many ties a least loss has, by trying all sets of ties, small ones first."""
    size = plain.size(web)
    for many in range(len(web[1]) + 1):
        for ties in combinations(web[1], many):
            if plain.size(less_ties(web, ties)) < size:
                return many
    return None


class Losses(unittest.TestCase):
    def check_least(self, web, many):
        told = least_loss(web)
        self.assertIs(type(told), tuple)
        ties, lot = told
        self.assertEqual(len(ties), many)
        self.assertIs(is_loss(web, told), True)
        self.assertGreater(plain.excess(less_ties(web, ties), lot), plain.spare(web))

    def test_against_all_sets_of_ties(self):
        webs = [web for n in range(1, 5) for web in plain.every_web(n)] + plain.chance_webs(5, 25)
        webs += [web for n in (6, 7) for web in plain.chance_webs(n, 40) if len(web[1]) <= 10]
        webs += [plain.ring(n) for n in range(3, 9)] + [plain.line(8), plain.all_tied(5), plain.stars(8)]
        for web in webs:
            if web[1]:
                self.check_least(web, least_number(web))
            else:
                self.assertIsNone(least_loss(web))

    def test_by_parted_places(self):
        # N5, also for webs of many ties
        for web in plain.chance_webs(6, 25, 7) + plain.chance_webs(7, 6, 7) + [plain.all_tied(6)]:
            if web[1]:
                self.check_least(web, cut_number(web))
        for web, many in [(plain.all_tied(8), 7), (plain.all_tied(7), 10), (plain.ring(8), 2),
                          ((8, tuple((x, y) for x in range(4) for y in range(4, 8))), 4)]:
            self.check_least(web, many)
            self.assertEqual(many, min(many, cut_number(web)))

    def test_a_lot_that_parts_what_is_tied_within(self):
        # Without the place 0 two triangles and the place 7 are left; two ties lead between them.
        ties = [(0, x) for x in range(1, 8)] + [(1, 2), (1, 3), (2, 3), (4, 5), (4, 6), (5, 6)]
        web = (8, tuple(sorted(ties + [(1, 7), (4, 7)])))
        self.assertEqual(least_number(web), 2)
        self.assertEqual(least_loss(web), (((1, 7), (4, 7)), (0,)))

    def test_lost_and_what_shows_it(self):
        source = random.Random(6)
        for web in small():
            for _ in range(4):
                ties = tuple(tie for tie in web[1] if source.random() < 0.4)
                left = less_ties(web, ties)
                number = plain.size(web) - plain.size(left)
                self.assertEqual(lost(web, ties), number)
                shown = False
                for lot in plain.lots_in_order(web[0])[::1 if web[0] < 7 else 3]:
                    told = is_loss(web, (ties, lot))
                    self.assertIs(told, plain.excess(left, lot) > plain.spare(web))
                    shown = shown or told
                if web[0] < 7:
                    # N4
                    self.assertEqual(shown, number > 0)
            self.assertEqual(lost(web, ()), 0)
            self.assertEqual(lost(web, web[1]), plain.size(web))

    def test_lost_in_large_webs(self):
        source = random.Random(8)
        for web in plain.large_webs():
            ties = tuple(tie for tie in web[1] if source.random() < 0.6)
            number = greatest_size(web) - greatest_size(less_ties(web, ties))
            self.assertEqual(lost(web, ties), number)
        for ties in [[(0, 1)], ((0, 2),), ((1, 2), (0, 1)), ((0, 1), (0, 1)), None]:
            with self.assertRaises(InvalidTies):
                lost(plain.line(4), ties)

    def test_too_many_places(self):
        self.assertIsNone(least_loss(plain.untied(8)))
        for n in (9, 10, 12):
            for web in (plain.untied(n), plain.line(n), plain.all_tied(n)):
                with self.assertRaises(TooMany) as caught:
                    least_loss(web)
                self.assertEqual(caught.exception.count, 8)
                self.assertIs(is_loss(web, (web[1], ())), bool(web[1]))

    def test_any_value(self):
        path = plain.line(4)
        self.assertIs(is_loss(path, (((0, 1),), ())), True)
        self.assertIs(is_loss(path, (((0, 1), (2, 3)), ())), True)
        # Without the middle tie nothing is lost, and a greatest excess is just the spare.
        self.assertIs(is_loss(path, (((1, 2),), ())), False)
        self.assertIs(is_loss(path, (((1, 2),), (0, 2))), False)
        self.assertIs(is_loss(path, ((), (0, 2))), False)
        self.assertIs(is_loss(plain.stars(4), ((), (0,))), False)
        self.assertIs(is_loss(plain.stars(4), (((0, 1), (0, 2), (0, 3)), ())), True)
        self.assertIs(is_loss(plain.stars(4), (((0, 1), (0, 2)), ())), False)
        ties = ((0, 1), (2, 3))
        for value in [(ties[::-1], ()), (((0, 1), (0, 1)), ()), (((0, 1), (0, 2)), ()), (list(ties), ()),
                      (ties, []), (ties, None), (ties, (0, 0)), (ties, (1, 0)), (ties, (4,)), (ties, (-1,)),
                      (ties, (True,)), (ties, (), ()), (ties,), [ties, ()], ((), ties), (((1, 0),), ()),
                      (((0, True), (2, 3)), ()), (([0, 1],), ()), (None, ()), (((0, 1, 2),), ())]:
            self.assertIs(is_loss(path, value), False, value)
        for value in plain.wrong_in([ties, ()]):
            if value != (ties, ()):
                self.assertIs(is_loss(path, value), False, value)


class Full(unittest.TestCase):
    def test_unextended(self):
        for web in full_webs():
            full = [set(pairing) for pairing in plain.full_pairings(web)]
            every = plain.every_pairing(web)
            for count in range(web[0] // 2 + 1):
                found = [one for one in every if len(one) == count
                         and not any(set(one) <= other for other in full)]
                self.assertEqual(unextended(web, count), found[0] if found else None)
                # N6
                if count and not found and web[0] >= 2 * count + 2 and len(pieces(web)) == 1:
                    self.assertIsNone(unextended(web, count - 1))
                    for lot in plain.lots_in_order(web[0]):
                        if len(lot) <= count:
                            self.assertEqual(len(plain.pieces(web, lot)), 1)

    def test_unfull_without_two(self):
        for web in full_webs():
            found = [(x, y) for x, y in plain.possible_ties(web[0])
                     if plain.spare_without(web, (x, y)) > 0]
            told = unfull_without_two(web)
            # N8
            self.assertEqual(told is None, not [lot for lot in plain.barriers(web) if len(lot) > 1])
            if not found:
                self.assertIsNone(told)
                continue
            x, y, lot = told
            self.assertEqual((x, y), found[0])
            self.assertTrue(x in lot and y in lot)
            self.assertEqual(lot, tuple(sorted(set(lot))))
            self.assertEqual(len(lot), len(plain.odd_pieces(web, lot)))

    def test_pairings_of_two_ties(self):
        # N7
        for web in full_webs():
            if web[0] >= 6 and len(pieces(web)) == 1 and unextended(web, 2) is None:
                if unfull_without_two(web) is not None:
                    sides(web)

    def test_bounds(self):
        self.assertIsNone(unextended(plain.all_tied(8), 4))
        self.assertIsNone(unfull_without_two(plain.all_tied(8)))
        self.assertIsNone(unfull_without_two(plain.line(2)))
        for web in (plain.ring(10), plain.all_tied(12)):
            for call in (lambda: unextended(web, 1), lambda: unfull_without_two(web)):
                with self.assertRaises(TooMany) as caught:
                    call()
                self.assertEqual(caught.exception.count, 8)

    def test_no_full_pairing(self):
        # Ahead of TooMany, behind the errors of the parameters.
        for web in [plain.stars(4), plain.untied(8), plain.line(3), plain.ring(9), (1, ()),
                    plain.stars(10), plain.untied(12), plain.all_tied(11)]:
            for call in (lambda: unextended(web, 0), lambda: unfull_without_two(web)):
                with self.assertRaises(NotFull) as caught:
                    call()
                self.assertGreater(excess(web, caught.exception.lot), 0)
            with self.assertRaises(InvalidCount):
                unextended(web, web[0] // 2 + 1)

    def test_counts(self):
        for web in (plain.line(4), plain.stars(5), plain.all_tied(12)):
            for count in [web[0] // 2 + 1, -1, True, False, None, "1", (), 10 ** 80, [1]]:
                with self.assertRaises(InvalidCount):
                    unextended(web, count)
        self.assertIsNone(unextended(plain.line(4), 2))
        self.assertEqual(unextended(plain.line(4), 1), ((1, 2),))
        self.assertIsNone(unextended(plain.line(4), 0))


if __name__ == "__main__":
    unittest.main()
