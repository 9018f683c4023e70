import unittest

from tests import plain
from everypairing import ears_odd as module
from everypairing.errors import InvalidEars, InvalidPairing, InvalidPlace, NotBuilt
from everypairing.lots import lots
from everypairing.webs import inner, pieces

THREE = plain.ring(3)
FIVE = plain.ring(5)


def near_full_webs(seed, many=12):
    found = [web for web in plain.small_webs(seed, 40) if plain.is_near_full(web)]
    dense = [web for n in (5, 7) for web in plain.chance_webs(n, many * 2, seed + 1)
             if plain.is_near_full(web)]
    return found + dense


def turned(ears, bits):
    """The same ears, some of them told from the other end."""
    return [ear[::-1] if bits >> at & 1 else ear for at, ear in enumerate(ears)]


def joined_ears(web, place):
    """All buildings of a small web from the place."""
    def odd_ears(lot, used):
        found = []

        def lengthen(ear, ties):
            for x in range(web[0]):
                tie = plain.tie_of(ear[-1], x)
                if tie not in web[1] or tie in used or tie in ties:
                    continue
                more = ear + (x,)
                if x in lot:
                    if plain.is_odd_ear(web, lot, more):
                        found.append(more)
                elif x not in ear:
                    lengthen(more, ties | {tie})

        for x in sorted(lot):
            lengthen((x,), frozenset())
        return found

    def build(ears, lot, used):
        if lot == frozenset(range(web[0])) and len(used) == len(web[1]):
            return [ears]
        found = []
        for ear in odd_ears(lot, used):
            fresh = frozenset(plain.tie_of(x, y) for x, y in zip(ear, ear[1:]))
            found += build(ears + [ear], lot | frozenset(ear), used | fresh)
        return found

    return build([], frozenset([place]), frozenset())


class Small(unittest.TestCase):
    def test_near_full(self):
        for web in plain.small_webs(61):
            found = [plain.pairings_leaving(web, place) for place in range(web[0])]
            self.assertIs(module.is_near_full(web), all(found))
            for place in range(web[0]):
                first = found[place][0] if found[place] else None
                self.assertEqual(module.near_pairing(web, place), first)
            self.assertEqual(module.near_counts(web), tuple(len(some) for some in found))

    def test_hindrance(self):
        for web in plain.small_webs(62):
            self.assertEqual(module.hindrance(web), plain.hindrance(web))
            self.assertEqual(module.hindrance(web) is None, plain.is_near_full(web))

    def test_lumps(self):
        for web in plain.small_webs(63):
            self.assertEqual(module.lumps(web), plain.lumps(web))

    def test_f4_to_f7(self):
        for web in plain.small_webs(64):
            near = plain.is_near_full(web)
            joined = len(plain.pieces(web)) == 1
            parts = all(plain.is_near_full(plain.inner(web, lot)) for lot in plain.lumps(web))
            self.assertEqual(near, joined and parts)
            if joined:
                self.assertEqual(near, len(plain.lots(web)[0]) == web[0])
            if near and web[0] >= 3:
                if len(module.lumps(web)) == 1:
                    self.assertGreaterEqual(sum(module.near_counts(web)), len(web[1]))
                some = {tie for x in range(web[0]) for p in plain.pairings_leaving(web, x)
                        for tie in p}
                self.assertEqual(some, set(web[1]))

    def test_buildings_from_each_place(self):
        for web in near_full_webs(65):
            for place in range(web[0]):
                ears = module.odd_ears(web, place)
                self.assertIs(type(ears), list)
                self.assertTrue(plain.is_building(web, place, ears))
                self.assertIs(module.is_odd_ears(web, place, ears), True)
                self.assertEqual(len(ears), len(web[1]) - web[0] + 1)

    def test_buildings_along_each_pairing(self):
        for web in near_full_webs(66, 4):
            for place in range(web[0]):
                for pairing in plain.pairings_leaving(web, place):
                    ears = module.ears_along(web, pairing)
                    self.assertTrue(plain.is_building(web, place, ears))
                    self.assertTrue(plain.goes_along(pairing, ears))
                    self.assertIs(module.is_ears_along(web, pairing, ears), True)

    def test_none_without_being_near_full(self):
        for web in plain.small_webs(67, 25):
            if plain.is_near_full(web):
                continue
            for place in range(web[0]):
                with self.assertRaises(NotBuilt) as caught:
                    module.odd_ears(web, place)
                self.assertEqual(caught.exception.lot, plain.hindrance(web))
            for pairing in plain.every_pairing(web):
                wanted = NotBuilt if len(plain.alone(web, pairing)) == 1 else InvalidPairing
                with self.assertRaises(wanted) as caught:
                    module.ears_along(web, pairing)
                if wanted is NotBuilt:
                    self.assertEqual(caught.exception.lot, plain.hindrance(web))

    def test_all_lists_of_ears(self):
        """Each building of some webs is one, and along just the pairings that it goes along."""
        for web in (THREE, FIVE, plain.BOW, plain.all_tied(4), plain.line(3), Bent.web):
            for place in range(web[0]):
                found = joined_ears(web, place)
                self.assertEqual(found != [], plain.is_near_full(web))
                for ears in found:
                    self.assertIs(module.is_odd_ears(web, place, ears), True)
                    self.check_moves(web, place, ears)
                    for pairing in plain.every_pairing(web):
                        along = plain.alone(web, pairing) == (place,) and plain.goes_along(
                            pairing, ears)
                        self.assertIs(module.is_ears_along(web, pairing, ears), along)

    def test_along_one_pairing_only(self):
        web = plain.all_tied(5)
        ears = module.ears_along(web, ((1, 2), (3, 4)))
        for pairing in plain.pairings_leaving(web, 0):
            self.assertIs(module.is_ears_along(web, pairing, ears), plain.goes_along(pairing, ears))
        for place in range(5):
            for pairing in plain.pairings_leaving(web, place):
                for other in plain.pairings_leaving(web, place):
                    ears = module.ears_along(web, pairing)
                    self.assertIs(module.is_ears_along(web, other, ears), pairing == other)

    def test_told_from_either_end(self):
        for web in near_full_webs(68, 3):
            if len(web[1]) > 9:
                continue
            ears = module.odd_ears(web, 0)
            for bits in range(1 << min(len(ears), 4)):
                told = turned(ears, bits)
                self.assertIs(module.is_odd_ears(web, 0, told), True)
                self.check_moves(web, 0, told)

    def check_moves(self, web, place, ears):
        for goal in range(web[0]):
            pairing = module.near_by_ears(web, place, ears, goal)
            self.assertEqual(pairing, moved(ears, goal))
            self.assertIn(pairing, plain.pairings_leaving(web, goal))

    def test_near_by_ears(self):
        for web in near_full_webs(69, 6):
            for place in range(0, web[0], 2):
                self.check_moves(web, place, module.odd_ears(web, place))


def moved(ears, goal):
    """near_by_ears, word for word from [22]."""
    taken = []
    alone = goal
    for ear in ears[::-1]:
        k = len(ear) - 1
        j = next((at for at in range(1, k) if ear[at] == alone), None)
        if j is None:
            spots = range(1, k - 1, 2)
        elif j % 2:
            spots = list(range(1, j - 1, 2)) + list(range(j + 1, k, 2))
            alone = ear[k]
        else:
            spots = list(range(0, j - 1, 2)) + list(range(j + 1, k - 1, 2))
            alone = ear[0]
        taken += [plain.tie_of(ear[at], ear[at + 1]) for at in spots]
    return tuple(sorted(taken))


class Bent(unittest.TestCase):
    web = (5, ((0, 1), (0, 2), (0, 3), (1, 2), (2, 3), (2, 4), (3, 4)))
    good = [(0, 1, 2, 0), (2, 4, 3, 2), (0, 3)]

    def bent(self):
        good = self.good
        first, second, third = good
        return [
            None, True, False, 0, 1, "", "ears", (), tuple(good), [], [good], good[:2], good[1:],
            [first, third, second], [second, first, third], good + [third], good + [(1, 2)],
            good + [()], good + [None], [None], [True], [first, second, [0, 3]],
            [list(first), second, third], [first, second, third, third[::-1]],
            [first, second, (0, True)], [(False, 1, 2, 0), second, third],
            [(0, True, 2, 0), second, third], [first, second, (0, 4)], [first, second, (0, 5)],
            [first, second, (-5, 3)], [first, second, ("0", 3)], [first, second, ((0,), 3)],
            [first, second, ([0], 3)], [first, second, (0, None)], [first, second, (0,)],
            [first, second, (0, 0)], [first, second, (3, 3)], [first, second, (0, 3, 0, 3)],
            [(0, 1, 2), second, third], [(0, 1, 2, 3), (2, 4, 3), (0, 2), (0, 3)],
            [(0, 1, 2, 4, 3, 0), (0, 2), (0, 2)], [(0, 1, 2, 1), second, third],
            [(0, 1, 2, 4, 3, 2, 0), (0, 3)], [(0, 1, 2, 4, 3, 2, 3, 0)],
            [(0, 1, 2, 0, 3), (3, 2, 4, 3)], [(0, 1), (1, 2), (0, 2), second, third],
            [first, (2, 4, 3, 2), (0, 3), (0, 2)], [first, (2, 4, 3, 0), (4, 2)],
            [(1, 0, 2, 1), second, third], [(0, 1, 2, 0, 0, 3), second], [10 ** 80], [(10 ** 80, 0)],
            [first, second, third, (2, 3)], [first, (2, 3, 4, 2), (0, 3), ()], "abc", [first] * 2000,
            {0: first}, [[0, 1, 2, 0], [2, 4, 3, 2], [0, 3]], [first, second + (), third, third],
        ]

    def test_bent_buildings(self):
        self.assertTrue(plain.is_building(self.web, 0, self.good))
        self.assertIs(module.is_odd_ears(self.web, 0, self.good), True)
        pairing = ((1, 2), (3, 4))
        self.assertIs(module.is_ears_along(self.web, pairing, self.good), True)
        for value in self.bent():
            self.assertIs(module.is_odd_ears(self.web, 0, value), False, value)
            self.assertIs(module.is_ears_along(self.web, pairing, value), False, value)
            with self.assertRaises(InvalidEars, msg=value):
                module.near_by_ears(self.web, 0, value, 0)
            with self.assertRaises(InvalidEars, msg=value):
                module.near_by_ears(self.web, 0, value, None)

    def test_good_ones_beside_them(self):
        for ears in ([(0, 2, 1, 0), (2, 3, 4, 2), (3, 0)], [(0, 1, 2, 4, 3, 0), (0, 2), (2, 3)],
                     [(0, 1, 2, 0), (2, 4, 3, 0), (2, 3)], [(0, 1, 2, 0), (0, 3, 4, 2), (2, 3)]):
            self.assertEqual(module.is_odd_ears(self.web, 0, ears),
                             plain.is_building(self.web, 0, ears))
        self.assertIs(module.is_odd_ears(self.web, 0, [(0, 1, 2, 0), (0, 3, 4, 2), (2, 3)]), True)
        self.assertIs(module.is_odd_ears(self.web, 2, [(2, 1, 0, 2), (2, 4, 3, 2), (0, 3)]), True)
        self.assertIs(module.is_odd_ears(self.web, 4, self.good), False)

    def test_random_bends(self):
        for web in near_full_webs(70, 3)[-12:]:
            ears = module.odd_ears(web, 0)
            for at, ear in enumerate(ears):
                for spot in range(len(ear)):
                    for x in range(web[0]):
                        bent = ears[:at] + [ear[:spot] + (x,) + ear[spot + 1:]] + ears[at + 1:]
                        self.assertIs(module.is_odd_ears(web, 0, bent),
                                      plain.is_building(web, 0, bent))
                    cut = ears[:at] + [ear[:spot] + ear[spot + 1:]] + ears[at + 1:]
                    self.assertIs(module.is_odd_ears(web, 0, cut), plain.is_building(web, 0, cut))
                for other in range(len(ears)):
                    swapped = list(ears)
                    swapped[at], swapped[other] = swapped[other], swapped[at]
                    self.assertIs(module.is_odd_ears(web, 0, swapped),
                                  plain.is_building(web, 0, swapped))

    def test_what_only_one_rule_excludes(self):
        with_one_more = lambda web: (web[0] + 1, web[1])
        triangle_and_square = (6, ((0, 1), (0, 2), (0, 3), (0, 5), (1, 2), (3, 4), (4, 5)))
        round_on_the_way = (6, ((0, 1), (0, 5), (1, 2), (1, 4), (1, 5), (2, 3), (3, 4)))
        for web, place, ears in [
            # A place that no ear has.
            ((2, ()), 0, []), ((4, ((0, 1), (0, 2), (1, 2))), 0, [(0, 1, 2, 0)]),
            # An even ear.
            (plain.ring(4), 0, [(0, 1, 2, 3, 0)]), (plain.ring(4), 0, [(0, 1, 2, 3, 0), ()]),
            (plain.BOW, 0, [(0, 1, 2, 0), (2, 3, 4), (4, 2)]),
            ((4, ((0, 1), (0, 2), (0, 3), (1, 2), (2, 3))), 0, [(0, 1, 2, 0), (0, 3, 2)]),
            ((3, ((0, 1),)), 0, [(0, 1, 0)]), ((2, ((0, 1),)), 0, [(0, 1, 0, 1)]),
            # An inner place that is there, or twice in the ear, in a web with an untied place.
            (with_one_more(triangle_and_square), 0, [(0, 1, 2, 0, 3, 4, 5, 0)]),
            (with_one_more(round_on_the_way), 0, [(0, 1, 2, 3, 4, 1, 5, 0)]),
            (triangle_and_square, 0, [(0, 1, 2, 0, 3, 4, 5, 0)]),
            (round_on_the_way, 0, [(0, 1, 2, 3, 4, 1, 5, 0)]),
            (with_one_more(triangle_and_square), 0, [(0, 3, 4, 5, 0, 1, 2, 0)]),
            (with_one_more(round_on_the_way), 0, [(0, 5, 1, 2, 3, 4, 1, 0)]),
            # An end that is not there yet.
            (plain.line(2), 0, [(0, 1)]), (plain.line(2), 0, [(1, 0)]),
            (plain.line(4), 0, [(0, 1, 2, 3)]), (plain.line(4), 0, [(3, 2, 1, 0)]),
        ]:
            self.assertFalse(plain.is_building(web, place, ears))
            self.assertIs(module.is_odd_ears(web, place, ears), False, (web, ears))
            with self.assertRaises(InvalidEars):
                module.near_by_ears(web, place, ears, place)

    def test_along_needs_one_place_alone(self):
        for pairing in ((), ((0, 1),), ((2, 4),)):
            self.assertIs(module.is_ears_along(self.web, pairing, self.good), False)
            with self.assertRaises(InvalidPairing):
                module.ears_along(self.web, pairing)
        self.assertIs(module.is_ears_along((1, ()), (), []), True)
        self.assertEqual(module.ears_along((1, ()), ()), [])
        self.assertIs(module.is_ears_along((2, ((0, 1),)), ((0, 1),), []), False)
        with self.assertRaises(InvalidPairing):
            module.ears_along((2, ((0, 1),)), ((0, 1),))

    def test_goals(self):
        for goal in (None, True, False, -1, 5, "0", (0,), [0], 10 ** 80):
            with self.assertRaises(InvalidPlace):
                module.near_by_ears(self.web, 0, self.good, goal)
        self.assertEqual(module.near_by_ears(self.web, 0, self.good, 0), ((1, 2), (3, 4)))
        self.assertEqual(module.near_by_ears(ears=self.good, goal=4, web=self.web, place=0),
                         ((0, 1), (2, 3)))
        self.assertEqual(module.near_by_ears((1, ()), 0, [], 0), ())


class Large(unittest.TestCase):
    def test_facts(self):
        near = 0
        for web in plain.large_webs(71) + [plain.ring(11), plain.all_tied(11), plain.all_tied(9)]:
            lot = module.hindrance(web)
            self.assertEqual(lot is None, module.is_near_full(web))
            if lot is not None:
                self.assertGreaterEqual(len(plain.odd_pieces(web, lot)), len(lot))
            joined = len(pieces(web)) == 1
            lumps = module.lumps(web)
            self.assertEqual(lumps, sorted(lumps, key=lambda lump: (len(lump), lump)))
            parts = all([module.is_near_full(inner(web, lump)) for lump in lumps])
            self.assertEqual(lot is None, joined and parts)
            if joined:
                self.assertEqual(lot is None, len(lots(web)[0]) == web[0])
            if lot is None:
                near += 1
                self.check_near(web)
        self.assertGreater(near, 3)

    def check_near(self, web):
        for place in (0, web[0] - 1):
            ears = module.odd_ears(web, place)
            self.assertTrue(plain.is_building(web, place, ears))
            for goal in range(web[0]):
                pairing = module.near_by_ears(web, place, ears, goal)
                self.assertEqual(plain.alone(web, pairing), (goal,))
                self.assertLessEqual(set(pairing), set(web[1]))
            pairing = module.near_pairing(web, place)
            along = module.ears_along(web, pairing)
            self.assertTrue(plain.is_building(web, place, along))
            self.assertTrue(plain.goes_along(pairing, along))

    def test_known_ones(self):
        self.assertEqual(module.near_counts(plain.all_tied(11)), (945,) * 11)
        self.assertEqual(module.near_counts(plain.all_tied(12)), (0,) * 12)
        self.assertEqual(module.near_counts((1, ())), (1,))
        self.assertEqual(module.lumps(plain.untied(12)), [(x,) for x in range(12)])
        self.assertEqual(module.lumps(plain.line(12)), [(x, x + 1) for x in range(11)])
        self.assertEqual(module.lumps(plain.all_tied(12)), [tuple(range(12))])
        self.assertEqual(module.hindrance(plain.all_tied(12)), (0,))
        self.assertIsNone(module.hindrance((1, ())))
        self.assertIsNone(module.near_pairing((2, ((0, 1),)), 0))
        self.assertEqual(module.near_pairing((1, ()), 0), ())
        self.assertEqual(module.odd_ears((1, ()), 0), [])
        self.assertEqual(module.near_pairing(plain.ring(11), 0),
                         ((1, 2), (3, 4), (5, 6), (7, 8), (9, 10)))

    def test_names_of_the_interface(self):
        web = THREE
        self.assertIs(module.is_near_full(web=web), True)
        self.assertEqual(module.near_pairing(place=1, web=web), ((0, 2),))
        self.assertEqual(module.near_counts(web=web), (1, 1, 1))
        self.assertIsNone(module.hindrance(web=web))
        self.assertEqual(module.lumps(web=web), [(0, 1, 2)])
        self.assertEqual(len(module.odd_ears(place=1, web=web)), 1)
        self.assertIs(module.is_odd_ears(value=[(1, 2, 0, 1)], place=1, web=web), True)
        self.assertEqual(len(module.ears_along(pairing=((0, 1),), web=web)), 1)
        self.assertIs(module.is_ears_along(value=[(2, 1, 0, 2)], pairing=((0, 1),), web=web), True)


if __name__ == "__main__":
    unittest.main()
