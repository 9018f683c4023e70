import unittest

from tests import plain
from everypairing import webs
from everypairing.errors import InvalidLot, InvalidRow, InvalidTie, TooMany

STAR = (4, ((0, 1), (0, 2), (0, 3)))
PATH = (4, ((0, 1), (1, 2), (2, 3)))
NO_WEBS = [
    None, True, False, 0, 4, "", "d:ab", (), [], (4,), [4, ((0, 1),)], (4, [(0, 1)]), (4, ([0, 1],)),
    (4, ((0, 1),), ()), (0, ()), (-1, ()), (13, ()), (10 ** 80, ()), (True, ()), (False, ()),
    ("4", ((0, 1),)), (None, ()), (4, None), (4, 0), (4, "ab"), (4, True), (4, (0, 1)), ((4, ()),),
    (4, ((1, 0),)), (4, ((0, 0),)), (4, ((0, 1), (0, 1))), (4, ((0, 2), (0, 1))),
    (4, ((1, 2), (0, 3))), (4, ((0, 4),)), (4, ((-1, 2),)), (4, ((0,),)), (4, ((0, 1, 2),)),
    (4, ((),)), (4, ((0, True),)), (4, ((False, 1),)), (4, ((True, 2),)), (4, ((0, "1"),)),
    (4, ((0, None),)), (4, ("ab",)), (4, (None,)), (4, (0,)), (4, (((0, 1), (0, 2)),)),
    (4, ((0, (1,)),)), (4, ((0, [1]),)), (1, ((0, 1),)), (1, ((0, 0),)), (4, ((0, 1), [0, 2])),
    (4, ((0, 1), None)), (4, ((0, 1), (0, 10 ** 80))), (((4,),), ()), [[4, []]], {}, (4, {}),
    (12, tuple(plain.possible_ties(13))), (4.0, ()), b"d:ab",
]


def nested(depth):
    value = ()
    for _ in range(depth):
        value = (value,)
    return value


class IsWeb(unittest.TestCase):
    def test_webs(self):
        for web in plain.small_webs() + plain.large_webs():
            self.assertIs(webs.is_web(web), True)
        self.assertIs(webs.is_web(value=(1, ())), True)

    def test_no_webs(self):
        for value in NO_WEBS + [nested(40), (4, nested(39)), (4, tuple(range(7000)))]:
            self.assertIs(webs.is_web(value), False, value)

    def test_one_fault_at_each_spot(self):
        web = plain.all_tied(5)
        self.assertIs(webs.is_web(web), True)
        for at, (x, y) in enumerate(web[1]):
            for bad in ((y, x), (x, x), [x, y], (x,), (x, y, y), (x, 5), (-1, y), None, (x, "b")):
                ties = web[1][:at] + (bad,) + web[1][at + 1:]
                self.assertIs(webs.is_web((5, ties)), False, ties)
            doubled = web[1][:at] + ((x, y),) + web[1][at:]
            self.assertIs(webs.is_web((5, doubled)), False)
            if at:
                swapped = web[1][:at - 1] + (web[1][at], web[1][at - 1]) + web[1][at + 1:]
                self.assertIs(webs.is_web((5, swapped)), False)
            for spot in (0, 1):
                if (x, y)[spot] in (0, 1):
                    bent = tuple(bool(z) if k == spot else z for k, z in enumerate((x, y)))
                    self.assertIs(webs.is_web((5, web[1][:at] + (bent,) + web[1][at + 1:])), False)

    def test_number_of_places(self):
        for n in range(-2, 16):
            self.assertIs(webs.is_web((n, ())), 1 <= n <= 12)
            if n > 1:
                self.assertIs(webs.is_web((n, ((0, n - 1),))), n <= 12)
                self.assertIs(webs.is_web((n, ((0, n),))), False)

    def test_subclasses_are_none(self):
        class Number(int):
            pass

        class Row(tuple):
            pass

        for value in (Row((4, ())), (Number(4), ()), (4, Row()), (4, (Row((0, 1)),)),
                      (4, ((Number(0), 1),))):
            self.assertIs(webs.is_web(value), False)


class IsPairing(unittest.TestCase):
    def test_all_sets_of_ties(self):
        for web in plain.every_web(4) + plain.chance_webs(5, 10):
            found = set(plain.every_pairing(web))
            for bits in range(1 << len(web[1])):
                ties = tuple(tie for at, tie in enumerate(web[1]) if bits >> at & 1)
                self.assertIs(webs.is_pairing(web, ties), ties in found)

    def test_wrong_values(self):
        pairing = ((0, 1), (2, 3))
        self.assertIs(webs.is_pairing(PATH, pairing), True)
        self.assertIs(webs.is_pairing(web=PATH, value=()), True)
        for value in [
            None, True, 0, 1, "", "ab", [], [(0, 1)], ([0, 1],), ((0, 1), [2, 3]), ((1, 0),),
            ((2, 3), (0, 1)), ((0, 1), (0, 1)), ((0, 1), (1, 2)), ((0, 2),), ((0, 3),), ((0, 4),),
            ((False, 1),), ((0, True),), ((0, 1), (2,)), ((0, 1, 2),), ((0, 1), None), (0, 1),
            ((0, 1), "cd"), ((),), (None,), nested(40), list(pairing), ((0, "1"),), (((0, 1),),),
            tuple([(0, 1)] * 3000), ((0, 10 ** 80),), ((-4, 1),),
        ]:
            self.assertIs(webs.is_pairing(PATH, value), False, value)


class Parts(unittest.TestCase):
    def test_mates_and_alone(self):
        for web in plain.small_webs(1, 15):
            for pairing in plain.every_pairing(web):
                mates = [webs.mate(web, pairing, place) for place in range(web[0])]
                self.assertEqual(mates, [plain.mate(pairing, x) for x in range(web[0])])
                self.assertEqual(webs.alone(web, pairing), plain.alone(web, pairing))
                self.assertEqual(len(webs.alone(web, pairing)), web[0] - 2 * len(pairing))

    def test_pieces_without_each_lot(self):
        for web in plain.small_webs(2, 15):
            for lot in plain.lots_in_order(web[0]):
                found = plain.pieces(web, lot)
                self.assertEqual(webs.pieces(web, lot), found)
                self.assertEqual(webs.odd_pieces(web, lot), plain.odd_pieces(web, lot))
                joined = [place for piece in found for place in piece]
                self.assertEqual(sorted(joined + list(lot)), list(range(web[0])))
            self.assertEqual(webs.pieces(web), plain.pieces(web))
            self.assertEqual(webs.odd_pieces(web), plain.odd_pieces(web))
            self.assertEqual(webs.pieces(web, tuple(range(web[0]))), [])
            self.assertEqual(webs.odd_pieces(web, tuple(range(web[0]))), [])

    def test_inner_of_each_lot(self):
        for web in plain.small_webs(3, 15):
            for lot in plain.lots_in_order(web[0])[1:]:
                self.assertEqual(webs.inner(web, lot), plain.inner(web, lot))
            self.assertEqual(webs.inner(web, tuple(range(web[0]))), web)
            with self.assertRaises(InvalidLot):
                webs.inner(web, ())

    def test_names_of_the_interface(self):
        self.assertEqual(webs.mate(web=PATH, pairing=((1, 2),), place=2), 1)
        self.assertEqual(webs.alone(pairing=((1, 2),), web=PATH), (0, 3))
        self.assertEqual(webs.pieces(lot=(1,), web=PATH), [(0,), (2, 3)])
        self.assertEqual(webs.odd_pieces(lot=(1,), web=PATH), [(0,)])
        self.assertEqual(webs.inner(lot=(1, 2), web=PATH), (2, ((0, 1),)))
        self.assertEqual(webs.renamed(row=(1, 0), web=(2, ((0, 1),))), (2, ((0, 1),)))
        self.assertEqual(webs.beside(other_web=(1, ()), web=(2, ((0, 1),))), (3, ((0, 1),)))
        self.assertEqual(webs.with_tie(tie=(0, 1), web=(2, ())), (2, ((0, 1),)))
        self.assertEqual(webs.less_tie(tie=(0, 1), web=(2, ((0, 1),))), (2, ()))
        self.assertEqual(webs.mirrored(web=(2, ())), (2, ((0, 1),)))
        self.assertEqual(webs.web_text(web=(2, ())), "b:")
        self.assertEqual(webs.web_told(text="b:ab"), (2, ((0, 1),)))


class Changed(unittest.TestCase):
    def test_renamed(self):
        for web in plain.small_webs(4, 15) + plain.large_webs(4):
            n, ties = web
            for turn in range(n):
                row = tuple((5 * x + turn) % n for x in range(n)) if n % 5 else tuple(
                    (x + turn) % n for x in range(n))[::-1]
                told = webs.renamed(web, row)
                self.assertIs(webs.is_web(told), True)
                self.assertEqual(set(told[1]), {tuple(sorted((row[x], row[y]))) for x, y in ties})
                back = tuple(row.index(x) for x in range(n))
                self.assertEqual(webs.renamed(told, back), web)

    def test_no_rows(self):
        for row in [None, True, 0, "abcd", (), [0, 1, 2, 3], (0, 1, 2), (0, 1, 2, 2), (0, 1, 2, 4),
                    (1, 2, 3, 4), (0, 1, 2, 3, 4), (0, 1, 2, 3, 3), (False, 1, 2, 3),
                    (0, True, 2, 3), (-1, 0, 1, 2), ("0", 1, 2, 3), (None, 1, 2, 3),
                    ((0,), 1, 2, 3), ([0], 1, 2, 3), ((0, 1, 2, 3),), (0, 1, 2, 10 ** 80)]:
            with self.assertRaises(InvalidRow, msg=row):
                webs.renamed(PATH, row)

    def test_beside(self):
        for web in plain.small_webs(5, 4)[::5]:
            for other in plain.small_webs(6, 2)[::9]:
                if web[0] + other[0] > 12:
                    continue
                told = webs.beside(web, other)
                self.assertIs(webs.is_web(told), True)
                self.assertEqual(told[0], web[0] + other[0])
                first = tuple(range(web[0]))
                self.assertEqual(plain.inner(told, first), web)
                self.assertEqual(plain.inner(told, tuple(range(web[0], told[0]))), other)
                self.assertEqual(len(told[1]), len(web[1]) + len(other[1]))

    def test_beside_at_the_bound(self):
        for n in range(1, 12):
            self.assertEqual(webs.beside(plain.line(n), plain.untied(12 - n)), (12, plain.line(n)[1]))
        for n in range(1, 13):
            with self.assertRaises(TooMany) as caught:
                webs.beside(plain.line(n), plain.line(13 - n))
            self.assertEqual(caught.exception.count, 12)
        with self.assertRaises(TooMany):
            webs.beside(plain.all_tied(12), plain.all_tied(12))

    def test_ties_come_and_go(self):
        for web in plain.small_webs(7, 10) + plain.large_webs(7):
            n, ties = web
            for tie in plain.possible_ties(n):
                if tie in ties:
                    less = webs.less_tie(web, tie)
                    self.assertEqual(less, (n, tuple(t for t in ties if t != tie)))
                    self.assertEqual(webs.with_tie(less, tie), web)
                    with self.assertRaises(InvalidTie):
                        webs.with_tie(web, tie)
                else:
                    more = webs.with_tie(web, tie)
                    self.assertEqual(more, (n, tuple(sorted(set(ties) | {tie}))))
                    self.assertEqual(webs.less_tie(more, tie), web)
                    with self.assertRaises(InvalidTie):
                        webs.less_tie(web, tie)

    def test_no_ties(self):
        for tie in [None, True, 0, "ab", (), [0, 2], (0,), (2, 0), (0, 0), (0, 4), (-1, 0),
                    (0, 2, 3), (False, 2), (0, True), (0, "2"), ((0, 2),), (0, [2]), (0, 10 ** 80)]:
            for change in (webs.with_tie, webs.less_tie):
                with self.assertRaises(InvalidTie, msg=tie):
                    change(PATH, tie)

    def test_mirrored(self):
        for web in plain.small_webs(8, 10) + plain.large_webs(8):
            told = webs.mirrored(web)
            self.assertIs(webs.is_web(told), True)
            self.assertEqual(set(told[1]) | set(web[1]), set(plain.possible_ties(web[0])))
            self.assertEqual(len(told[1]) + len(web[1]), len(plain.possible_ties(web[0])))
            self.assertEqual(webs.mirrored(told), web)


if __name__ == "__main__":
    unittest.main()
