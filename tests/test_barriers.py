import unittest
from math import prod

from tests import plain
from everypairing import barriers as module
from everypairing.errors import NotBarrier, NotFull, NotGreatest, TooMany
from everypairing.greatest import excess, is_longer_row, spare
from everypairing.lots import lots
from everypairing.shares_of_ties import fixed_ties, idle_ties, is_covered, lean_pieces
from everypairing.webs import inner, less_tie, pieces, renamed, with_tie


def bars_together(web, found):
    """Whether two places are barred together, straight from [18]."""
    lean = plain.components(
        list(range(web[0])), [t for t in web[1] if plain.tie_kind(web, t) != "idle"])

    def together(x, y):
        one_piece = any(x in piece and y in piece for piece in lean)
        return x == y or one_piece and any(x in lot and y in lot for lot in found)

    return together


def place_classes(web):
    together = bars_together(web, plain.barriers(web))
    good = [
        lot for lot in plain.lots_in_order(web[0])
        if lot and all(together(x, y) for x in lot for y in lot)
    ]
    return sorted(plain.contained_in_no_other(good))


class Small(unittest.TestCase):
    def test_barriers_of_all_lots(self):
        for web in plain.small_webs(41, 40):
            found = plain.barriers(web)
            wide = plain.contained_in_no_other(found)
            self.assertEqual(module.barriers(web), found)
            self.assertEqual(module.barrier_count(web), len(found))
            self.assertEqual(module.greatest_barriers(web), wide)
            core = set(range(web[0])).intersection(*map(set, wide))
            self.assertEqual(module.barrier_core(web), tuple(sorted(core)))

    def test_each_lot(self):
        for web in plain.small_webs(42, 10):
            found = plain.barriers(web)
            wide = plain.contained_in_no_other(found)
            d = plain.spare(web)
            for lot in plain.lots_in_order(web[0]):
                self.assertIs(module.is_barrier(web, lot), lot in found)
                over = [barrier for barrier in found if set(lot) <= set(barrier)]
                self.assertEqual(module.barriers_over(web, lot), len(over))
                dear = plain.spare_without(web, lot) == d + len(lot)
                self.assertIs(module.is_dear(web, lot), dear)
                self.assertEqual(dear, over != [])
                first = [barrier for barrier in wide if set(lot) <= set(barrier)][:1]
                self.assertEqual(module.barrier_over(web, lot), first[0] if first else None)

    def test_classes(self):
        full = 0
        for web in plain.small_webs(43, 40):
            if plain.spare(web):
                with self.assertRaises(NotFull) as caught:
                    module.place_classes(web)
                self.assertGreater(plain.excess(web, caught.exception.lot), 0)
                continue
            full += 1
            classes = place_classes(web)
            self.assertEqual(module.place_classes(web), classes)
            self.assertEqual(sorted(x for lot in classes for x in lot), list(range(web[0])))
        self.assertGreater(full, 50)

    def test_pieces_left_and_met(self):
        for web in plain.small_webs(44, 12):
            found = plain.greatest(web)
            for lot in plain.lots_in_order(web[0]):
                if plain.excess(web, lot) != plain.spare(web):
                    self.refused(web, lot, found[0])
                    continue
                odd = plain.odd_pieces(web, lot)
                left = set()
                for pairing in found:
                    met = sorted((x, piece) for x in lot for piece in odd
                                 if plain.mate(pairing, x) in piece)
                    self.assertEqual(module.met_pieces(web, lot, pairing), met)
                    left |= {piece for piece in odd if piece not in [part for _, part in met]}
                self.assertEqual(module.pieces_left(web, lot), sorted(left))

    def refused(self, web, lot, pairing):
        for call in (lambda: module.pieces_left(web, lot),
                     lambda: module.met_pieces(web, lot, pairing),
                     lambda: module.met_pieces(web, lot, ())):
            with self.assertRaises(NotBarrier) as caught:
                call()
            self.assertEqual(caught.exception.excess, plain.excess(web, lot))

    def test_met_pieces_of_pairings_that_are_not_greatest(self):
        for web in plain.small_webs(45, 8):
            lot = plain.barriers(web)[0]
            found = plain.greatest(web)
            for pairing in plain.every_pairing(web):
                if pairing not in found:
                    with self.assertRaises(NotGreatest) as caught:
                        module.met_pieces(web, lot, pairing)
                    self.assertIs(is_longer_row(web, pairing, caught.exception.row), True)

    def test_e2_and_e4(self):
        for web in plain.small_webs(46, 8):
            for lot in module.greatest_barriers(web):
                self.assertEqual(plain.odd_pieces(web, lot), plain.pieces(web, lot))
                for piece in plain.pieces(web, lot):
                    self.assertTrue(plain.is_near_full(plain.inner(web, piece)))
            self.assertEqual(module.barrier_core(web), plain.lots(web)[1])
            for lot in module.barriers(web):
                counts = [module.barrier_count(inner(web, piece)) for piece in pieces(web, lot)]
                self.assertEqual(module.barriers_over(web, lot), prod(counts))

    def test_e5(self):
        for web in plain.small_webs(47, 6):
            found = module.barriers(web)
            for tie in web[1]:
                if tie not in fixed_ties(web):
                    self.assertLessEqual(set(found), set(module.barriers(less_tie(web, tie))))
            for lot in found:
                for x, y in plain.possible_ties(web[0]):
                    if x in lot and y in lot and (x, y) not in web[1]:
                        self.assertIs(module.is_barrier(with_tie(web, (x, y)), lot), True)

    def test_e6(self):
        for web in plain.small_webs(48, 25):
            if plain.spare(web):
                continue
            classes = module.place_classes(web)
            wide = module.greatest_barriers(web)
            for lot in wide:
                for piece in lean_pieces(web):
                    part = tuple(x for x in piece if x in lot)
                    self.assertTrue(part == () or part in classes)
            for lot in classes:
                self.assertTrue(any(lot == piece or set(lot) <= set(piece)
                                    for piece in lean_pieces(web)))
                self.assertIs(module.is_dear(web, lot), True)
            if is_covered(web):
                self.assertEqual(sorted(wide), classes)


class Large(unittest.TestCase):
    def test_facts(self):
        for web in plain.large_webs(49, 2):
            d = spare(web)
            core = module.barrier_core(web)
            self.assertEqual(core, lots(web)[1])
            self.assertIs(module.is_barrier(web, core), True)
            wide = module.greatest_barriers(web)
            self.assertEqual(wide, sorted(wide, key=lambda lot: (len(lot), lot)))
            for lot in wide[:12]:
                self.assertEqual(excess(web, lot), d)
                self.assertEqual(module.barriers_over(web, lot), 1)
                self.assertIs(module.is_dear(web, lot), True)
            opened = lots(web)[0]
            for place in range(web[0]):
                dear = module.is_dear(web, (place,))
                self.assertEqual(dear, place not in opened)
                self.assertEqual(module.barriers_over(web, (place,)) > 0, dear)
                self.assertEqual(module.barrier_over(web, (place,)) is not None, dear)
            for tie in idle_ties(web)[:5]:
                self.assertIsNotNone(module.barrier_over(web, tie))
            self.assertEqual(module.barriers_over(web, ()), module.barrier_count(web))

    def test_too_many_places(self):
        for web in (plain.all_tied(9), plain.untied(9), plain.line(12)):
            with self.assertRaises(TooMany) as caught:
                module.barriers(web)
            self.assertEqual(caught.exception.count, 8)
            self.assertIsInstance(module.barrier_count(web), int)
            self.assertIsInstance(module.greatest_barriers(web), list)
        for web in (plain.all_tied(8), plain.untied(8), plain.line(8)):
            self.assertEqual(module.barriers(web), plain.barriers(web))

    def test_known_ones(self):
        self.assertEqual(module.barriers(plain.untied(8)), [()])
        self.assertEqual(module.barrier_count(plain.untied(12)), 1)
        self.assertEqual(module.barrier_count(plain.all_tied(12)), 13)
        self.assertEqual(module.barrier_count(plain.all_tied(11)), 1)
        self.assertEqual(module.greatest_barriers(plain.ring(12)),
                         [(0, 2, 4, 6, 8, 10), (1, 3, 5, 7, 9, 11)])
        self.assertEqual(module.place_classes(plain.ring(12)),
                         [(0, 2, 4, 6, 8, 10), (1, 3, 5, 7, 9, 11)])
        self.assertEqual(module.place_classes(plain.all_tied(12)), [(x,) for x in range(12)])
        self.assertEqual(module.barrier_core(plain.stars(12)), (0,))
        self.assertEqual(module.pieces_left(plain.untied(12), ()), [(x,) for x in range(12)])
        self.assertEqual(module.met_pieces(plain.untied(12), (), ()), [])

    def test_all_barriers_of_eight_places(self):
        for web in plain.chance_webs(8, 6, 50):
            self.assertEqual(module.barriers(web), plain.barriers(web))

    def test_renamed(self):
        for web in plain.large_webs(51, 1):
            row = tuple(range(web[0]))[::-1]
            told = {tuple(sorted(row[x] for x in lot)) for lot in module.greatest_barriers(web)}
            self.assertEqual(set(module.greatest_barriers(renamed(web, row))), told)

    def test_names_of_the_interface(self):
        web = (2, ((0, 1),))
        self.assertIs(module.is_barrier(lot=(0,), web=web), True)
        self.assertEqual(module.barriers(web=web), [(), (0,), (1,)])
        self.assertEqual(module.barrier_count(web=web), 3)
        self.assertEqual(module.barriers_over(lot=(0,), web=web), 1)
        self.assertEqual(module.greatest_barriers(web=web), [(0,), (1,)])
        self.assertIs(module.is_dear(lot=(0, 1), web=web), False)
        self.assertEqual(module.barrier_over(lot=(1,), web=web), (1,))
        self.assertEqual(module.barrier_core(web=web), ())
        self.assertEqual(module.place_classes(web=web), [(0,), (1,)])
        self.assertEqual(module.pieces_left(lot=(0,), web=web), [])
        self.assertEqual(module.met_pieces(pairing=((0, 1),), lot=(0,), web=web), [(0, (1,))])


if __name__ == "__main__":
    unittest.main()
