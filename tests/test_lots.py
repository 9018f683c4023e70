import unittest

from tests import plain
from everypairing import lots as module
from everypairing.errors import NotGreatest
from everypairing.greatest import greatest_pairing, is_longer_row, spare
from everypairing.webs import beside, renamed, with_tie


def open_pieces(web):
    return plain.components(list(plain.lots(web)[0]), web[1])


class Small(unittest.TestCase):
    def test_against_all_greatest_pairings(self):
        for web in plain.small_webs(11):
            found = plain.greatest(web)
            three = plain.lots(web)
            self.assertEqual(module.lots(web), three)
            self.assertEqual(module.open_pieces(web), open_pieces(web))
            for place in range(web[0]):
                pairing = module.leaving(web, place)
                if place in three[0]:
                    self.assertIn(pairing, found)
                    self.assertIsNone(plain.mate(pairing, place))
                else:
                    self.assertIsNone(pairing)

    def test_held(self):
        for web in plain.small_webs(12, 25):
            opened, holding, closed = plain.lots(web)
            found = plain.greatest(web)
            for pairing in plain.every_pairing(web):
                if pairing not in found:
                    with self.assertRaises(NotGreatest) as caught:
                        module.held(web, pairing)
                    row = caught.exception.row
                    self.assertIs(is_longer_row(web, pairing, row), True)
                    continue
                told = module.held(web, pairing)
                self.assertEqual([place for place, _ in told], list(holding))
                for place, piece in told:
                    self.assertIn(piece, open_pieces(web))
                    self.assertIn(plain.mate(pairing, place), piece)
                self.check_c1(web, pairing, told, closed)

    def check_c1(self, web, pairing, told, closed):
        met = [piece for _, piece in told]
        self.assertEqual(len(set(met)), len(met))
        for place in closed:
            self.assertIn(plain.mate(pairing, place), closed)
        for piece in open_pieces(web):
            outer = [x for x in piece if plain.mate(pairing, x) not in piece]
            self.assertEqual(len(outer), 1)
            if piece not in met:
                self.assertIsNone(plain.mate(pairing, outer[0]))

    def test_c2_to_c4(self):
        for web in plain.small_webs(13, 25):
            opened, holding, _ = module.lots(web)
            found = module.open_pieces(web)
            self.assertEqual(plain.spare(web), len(found) - len(holding))
            self.assertEqual(plain.excess(web, holding), plain.spare(web))
            self.assertEqual(plain.odd_pieces(web, holding), found)
            for piece in found:
                self.assertTrue(plain.is_near_full(plain.inner(web, piece)))
            self.assertEqual(opened == (), plain.spare(web) == 0)
            if web[0] > 1:
                for place in range(web[0]):
                    change = -1 if place in opened else 1
                    self.assertEqual(plain.spare_without(web, (place,)), plain.spare(web) + change)

    def test_c5_tie_more(self):
        for web in plain.small_webs(14, 8):
            opened, holding, _ = module.lots(web)
            leaves = {plain.alone(web, pairing) for pairing in plain.greatest(web)}
            piece_of = {x: piece for piece in module.open_pieces(web) for x in piece}
            for x, y in plain.possible_ties(web[0]):
                if (x, y) in web[1]:
                    continue
                both = any(x in lot and y in lot for lot in leaves)
                fall = plain.spare(web) - spare(with_tie(web, (x, y)))
                self.assertEqual(fall, 2 if both else 0)
                if not holding and x in opened and y in opened and piece_of[x] != piece_of[y]:
                    self.assertTrue(both)


class Large(unittest.TestCase):
    def test_facts(self):
        for web in plain.large_webs(15) + self.of_several_pieces():
            opened, holding, closed = module.lots(web)
            self.assertEqual(sorted(opened + holding + closed), list(range(web[0])))
            self.assertEqual(plain.excess(web, holding), spare(web))
            found = module.open_pieces(web)
            self.assertEqual(plain.odd_pieces(web, holding), found)
            self.assertEqual(found, plain.components(list(opened), web[1]))
            pairing = greatest_pairing(web)
            told = module.held(web, pairing)
            Small.check_c1(self, web, pairing, told, closed)
            for place in range(web[0]):
                one = module.leaving(web, place)
                self.assertEqual(one is not None, place in opened)
                if one is not None:
                    self.assertEqual(len(one), len(pairing))
                    self.assertIn(place, plain.alone(web, one))
                    self.assertLessEqual(set(one), set(web[1]))

    def of_several_pieces(self):
        return [
            beside(plain.stars(5), plain.ring(7)), beside(plain.line(6), plain.all_tied(5)),
            beside(plain.PRISM, plain.BOW), beside(plain.untied(3), plain.stars(4)),
        ]

    def test_renamed(self):
        for web in plain.large_webs(16) + plain.small_webs(16, 10):
            n = web[0]
            row = tuple((x * 7 + 3) % n for x in range(n)) if n != 7 else (3, 5, 0, 6, 1, 2, 4)
            told = module.lots(renamed(web, row))
            self.assertEqual(
                told, tuple(tuple(sorted(row[x] for x in lot)) for lot in module.lots(web)))

    def test_without_open_or_holding_places(self):
        self.assertEqual(module.lots(plain.all_tied(12)), ((), (), tuple(range(12))))
        self.assertEqual(module.lots(plain.all_tied(11)), (tuple(range(11)), (), ()))
        self.assertEqual(module.open_pieces(plain.all_tied(12)), [])
        self.assertEqual(module.open_pieces(plain.untied(12)), [(x,) for x in range(12)])
        self.assertEqual(module.held(plain.untied(12), ()), [])
        self.assertEqual(module.held(plain.stars(12), ((0, 5),)), [(0, (5,))])
        self.assertEqual(module.leaving((1, ()), 0), ())
        self.assertIsNone(module.leaving((2, ((0, 1),)), 0))

    def test_names_of_the_interface(self):
        web = plain.stars(4)
        self.assertEqual(module.lots(web=web), ((1, 2, 3), (0,), ()))
        self.assertEqual(module.open_pieces(web=web), [(1,), (2,), (3,)])
        self.assertIsNone(module.leaving(place=0, web=web))
        self.assertEqual(module.held(pairing=((0, 2),), web=web), [(0, (2,))])


if __name__ == "__main__":
    unittest.main()
