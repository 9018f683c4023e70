import unittest
from itertools import permutations

from tests import plain
from everypairing import ears_covered as module
from everypairing.barriers import place_classes
from everypairing.ears_odd import is_near_full, lumps
from everypairing.errors import InvalidPairing, NotCovered
from everypairing.greatest import greatest_pairing, greatest_size
from everypairing.shares_of_ties import greatest_with, idle_ties, is_covered
from everypairing.webs import pieces, renamed

ALL4 = plain.all_tied(4)
RING4 = plain.ring(4)
TWO12 = (12, tuple((x, y) for x in range(6) for y in range(6, 12)))


def covered_webs(seed, many):
    found = [(2, ((0, 1),)), RING4, ALL4, plain.ring(6), plain.all_tied(6), plain.PRISM]
    for n in (4, 6, 8):
        found += [web for web in plain.chance_webs(n, many, seed) if plain.is_covered(web)]
    return found


def with_places(web, place, other_place):
    """The web with an ear of two new places."""
    n, ties = web
    return (n + 2, tuple(sorted(ties + ((place, n), (n, n + 1), (other_place, n + 1)))))


def sub_web(places, ties):
    """The web of these places and ties, numbered anew."""
    number = {place: at for at, place in enumerate(sorted(places))}
    return (len(places), tuple(sorted((number[x], number[y]) for x, y in ties)))


def is_building(web, tie, stages):
    """Whether a list of tuples of tuples of places is a covered building, from [23]."""
    there, used = set(tie), [tie]
    for stage in stages:
        if len(stage) not in (1, 2):
            return False
        if len(stage) == 2 and set(stage[0]) & set(stage[1]):
            return False
        if any(not plain.is_odd_ear(web, there, ear) or ear[0] == ear[-1] for ear in stage):
            return False
        for ear in stage:
            there |= set(ear)
            used += [plain.tie_of(x, y) for x, y in zip(ear, ear[1:])]
        if len(set(used)) < len(used) or not plain.is_covered(sub_web(there, used)):
            return False
    return there == set(range(web[0])) and sorted(used) == list(web[1])


def goes_along(pairing, stages):
    return all(plain.goes_along(pairing, stage) for stage in stages)


def is_lone_row(web, row):
    """Straight from [24], for a list of half as many ties of the web as there are places."""
    left = set(range(web[0]))
    for tie in row:
        if not set(tie) <= left:
            return False
        ties = [other for other in web[1] if set(other) <= left]
        with_it = plain.components(sorted(left), ties)
        without = plain.components(sorted(left), [other for other in ties if other != tie])
        fresh = [piece for piece in without if piece not in with_it]
        if len(fresh) != 2 or any(len(piece) % 2 == 0 for piece in fresh):
            return False
        left -= set(tie)
    return True


class Ears(unittest.TestCase):
    def test_takes_ear(self):
        for web in covered_webs(1, 12):
            if web[0] > 6:
                continue
            for x in range(web[0]):
                for y in range(web[0]):
                    if x != y:
                        self.assertIs(module.takes_ear(web, x, y),
                                      plain.is_covered(with_places(web, x, y)))

    def test_takes_ear_by_full_pairings(self):
        for web in covered_webs(2, 25):
            for x, y in plain.possible_ties(web[0]):
                whole = plain.spare_without(web, (x, y)) == 0
                self.assertIs(module.takes_ear(web, x, y), whole)
                self.assertIs(module.takes_ear(web, y, x), whole)
                # G2: any ear, also a single tie that is not there.
                if whole and (x, y) not in web[1]:
                    self.assertIs(is_covered((web[0], tuple(sorted(web[1] + ((x, y),))))), True)

    def test_takes_ear_of_barred_places(self):
        for web in covered_webs(3, 12) + [TWO12, plain.ring(12), plain.all_tied(12)]:
            classes = place_classes(web)
            for lot in classes:
                for x in lot:
                    for y in range(web[0]):
                        if x != y:
                            self.assertIs(module.takes_ear(web, x, y), y not in lot)

    def test_g3_two_ears(self):
        together = 0
        webs = covered_webs(13, 12) + [TWO12, plain.ring(12), plain.ring(10)]
        webs += [web for web in plain.chance_webs(12, 12, 13) if is_covered(web)][:4]
        for web in webs:
            n, ties = web
            alone = [(x, y) for x, y in plain.possible_ties(n)
                     if (x, y) not in ties and not module.takes_ear(web, x, y)]
            for one in alone[:9]:
                for two in alone[::3]:
                    if not set(one) & set(two):
                        both = (n, tuple(sorted(ties + (one, two))))
                        rest = plain.without(web, one + two)
                        whole = rest is None or 2 * greatest_size(rest) == n - 4
                        together += whole
                        self.assertIs(is_covered(both), whole)
        self.assertGreater(together, 20)

    def test_many_places(self):
        self.assertIs(module.takes_ear(plain.ring(12), 0, 2), False)
        self.assertIs(module.takes_ear(plain.ring(12), 0, 1), True)
        self.assertIs(module.takes_ear(plain.ring(12), 0, 7), True)
        self.assertIs(module.takes_ear(plain.all_tied(12), 11, 4), True)
        with self.assertRaises(NotCovered) as caught:
            module.takes_ear(plain.ring(11), 0, 1)
        self.assertEqual(caught.exception.tie, ())

    def test_not_covered(self):
        seen = 0
        for web in plain.small_webs(4, 25):
            if plain.is_covered(web):
                continue
            idle = [tie for tie in web[1] if plain.tie_kind(web, tie) == "idle"]
            tie = idle[0] if idle else ()
            seen += idle != [] and plain.spare(web) > 0
            calls = [lambda: module.covered_ears(web, web[1][-1])] if web[1] else []
            if web[0] > 1:
                calls.append(lambda: module.takes_ear(web, 1, 0))
            if plain.spare(web) == 0:
                calls.append(lambda: module.covered_along(web, greatest_pairing(web)))
            for call in calls:
                with self.assertRaises(NotCovered) as caught:
                    call()
                self.assertEqual(caught.exception.tie, tie)
        self.assertGreater(seen, 5)


class Buildings(unittest.TestCase):
    def test_from_each_tie(self):
        for web in covered_webs(5, 40):
            for tie in web[1]:
                stages = module.covered_ears(web, tie)
                self.assertTrue(is_building(web, tie, stages), (web, tie, stages))
                self.assertIs(module.is_covered_ears(web, tie, stages), True)
                self.assertEqual(sum(map(len, stages)), len(web[1]) - web[0] + 1)
                self.assertGreater(len(plain.full_pairings(web)), len(stages))

    def test_along_each_full_pairing(self):
        for web in covered_webs(6, 12):
            for pairing in plain.full_pairings(web)[:12]:
                stages = module.covered_along(web, pairing)
                self.assertTrue(is_building(web, pairing[0], stages))
                self.assertTrue(goes_along(pairing, stages))
                self.assertIs(module.is_covered_along(web, pairing, stages), True)
                for other in plain.full_pairings(web)[:12]:
                    along = other[0] == pairing[0] and goes_along(other, stages)
                    self.assertIs(module.is_covered_along(web, other, stages), along)

    def test_from_another_tie_only(self):
        stages = module.covered_ears(RING4, (0, 1))
        self.assertEqual(stages in ([((0, 3, 2, 1),)], [((1, 2, 3, 0),)]), True)
        self.assertIs(module.is_covered_ears(RING4, (0, 3), stages), False)
        self.assertIs(module.is_covered_along(RING4, ((0, 3), (1, 2)), stages), False)

    def test_large(self):
        webs = [plain.all_tied(12), plain.ring(12), TWO12]
        webs += [web for web in plain.chance_webs(12, 30, 7) if is_covered(web)][:8]
        self.assertGreater(len(webs), 6)
        for web in webs:
            for tie in web[1][::9]:
                stages = module.covered_ears(web, tie)
                self.check_counted(web, tie, stages)
                self.assertIs(module.is_covered_ears(web, tie, stages), True)
                pairing = greatest_with(web, tie)
                along = module.covered_along(web, pairing)
                self.check_counted(web, pairing[0], along)
                self.assertTrue(goes_along(pairing, along))
                self.assertIs(module.is_covered_along(web, pairing, along), True)

    def check_counted(self, web, tie, stages):
        """The ears of a building, but for whether each web on the way is covered: told by it."""
        there, used = set(tie), [tie]
        for stage in stages:
            self.assertIn(len(stage), (1, 2))
            for ear in stage:
                self.assertTrue(plain.is_odd_ear(web, there, ear) and ear[0] != ear[-1])
            for ear in stage:
                there |= set(ear)
                used += [plain.tie_of(x, y) for x, y in zip(ear, ear[1:])]
            self.assertIs(is_covered(sub_web(there, used)), True)
        self.assertEqual(sorted(used), list(web[1]))

    def test_g4_one_ear_a_stage(self):
        two_sided = [web for web in plain.two_sided_webs(14, 300) if is_covered(web)]
        self.assertGreater(len(two_sided), 8)
        for web in two_sided + [TWO12]:
            single = module.covered_ears(web, web[1][0])
            self.assertEqual({len(stage) for stage in single} <= {1}, True)
            self.assertIs(module.is_covered_ears(web, web[1][0], single), True)
        ears = [(0, 2), (1, 3), (0, 3), (1, 2), (0, 2, 3, 1), (0, 3, 2, 1), (1, 2, 3, 0)]
        for many in range(4):
            for some in permutations(ears, many):
                self.assertIs(module.is_covered_ears(ALL4, (0, 1), [(ear,) for ear in some]), False)
        self.assertEqual([len(stage) for stage in module.covered_ears(ALL4, (0, 1))], [1, 2])

    def test_two_places(self):
        web = (2, ((0, 1),))
        self.assertEqual(module.covered_ears(web, (0, 1)), [])
        self.assertEqual(module.covered_along(web, ((0, 1),)), [])
        self.assertIs(module.is_covered_ears(web, (0, 1), []), True)
        self.assertIs(module.is_covered_along(web, ((0, 1),), []), True)
        for value in plain.wrong_in([]) + [[((0, 1),)], [((1, 0),)], [()]]:
            if value != []:
                self.assertIs(module.is_covered_ears(web, (0, 1), value), False)
        self.assertIs(module.is_covered_ears((3, ((0, 1),)), (0, 1), []), False)
        self.assertIs(module.is_covered_ears((3, ((0, 1), (1, 2))), (0, 1), []), False)
        self.assertIs(module.takes_ear(web, 0, 1), True)

    def test_full_pairings_only(self):
        for web in (RING4, ALL4, plain.PRISM):
            for pairing in plain.every_pairing(web):
                if 2 * len(pairing) < web[0]:
                    self.assertIs(module.is_covered_along(web, pairing, []), False)
                    with self.assertRaises(InvalidPairing):
                        module.covered_along(web, pairing)
        stages = module.covered_ears(RING4, (0, 1))
        self.assertIs(module.is_covered_along(RING4, ((0, 1),), stages), False)
        with self.assertRaises(InvalidPairing):
            module.covered_along((3, ((0, 1),)), ((0, 1),))

    def test_near_full_with_one_place_more(self):
        for web in plain.small_webs(8, 12) + plain.large_webs(8, 1):
            n, ties = web
            if n < 12:
                more = (n + 1, tuple(sorted(ties + tuple((x, n) for x in range(n)))))
                self.assertEqual(is_near_full(web), is_covered(more))
            if n >= 4 and is_covered(web):
                self.assertEqual(len(lumps(web)), 1)

    def test_renamed(self):
        web = renamed(plain.PRISM, (5, 3, 1, 0, 2, 4))
        for tie in web[1]:
            self.assertTrue(is_building(web, tie, module.covered_ears(web, tie)))


class Bent(unittest.TestCase):
    good = [((1, 2, 3, 0),), ((0, 2), (1, 3))]

    def test_bent_buildings(self):
        first, second = self.good
        bent = plain.wrong_in(self.good) + [
            [first], [second], [second, first], [], [first, second, second], [first, second, ()],
            [first, ((0, 2),), ((1, 3),)], [first, ((0, 2), (1, 3), (0, 1))], [first + second],
            [first, ((0, 2), (2, 0))], [first, ((0, 2), (0, 2))], [first, ((0, 2),)],
            [first, ((0, 2), (1, 2))], [first, ((0, 2), (1, 3), ())], [first, ((0, 2), ())],
            [first, [(0, 2), (1, 3)]], [list(first), second], [([1, 2, 3, 0],), second],
            [first, ((0, 2), [1, 3])], [first, ((0, 2), (True, 3))], [((True, 2, 3, 0),), second],
            [((1, 2, 3, False),), second], [first, ((False, 2), (1, 3))], [(1, 2, 3, 0), second],
            [((0, 1, 2, 3, 0),), second], [((1, 2, 3, 1),), second], [((1, 2, 3),), second],
            [((1, 2, 0),), ((1, 3, 0),)], [((1, 2), (0, 3)), ((2, 3),)], [first, ((0, 2), (3, 1, 3))],
            [((0, 2), (1, 3)), ((2, 3),), ((0, 3), (1, 2))], [first, ((0, 4), (1, 3))],
            [first, ((0, 2), (1, -1))], [first, ((0, "2"), (1, 3))], [first, ((0, 2), None)],
            [first, ((0, 2), (1, 3)), ((0, 1),)], [((0, 1),), first, second], [first, None],
            [((1, 2, 3, 0), (0, 2)), ((1, 3),)], [((1, 2, 3, 0, 1, 2),), second],
            [first, ((0, None), (1, 3))], [first, ((0, (2,)), (1, 3))], [first, ((0, [2]), (1, 3))],
        ]
        self.assertIs(module.is_covered_ears(ALL4, (0, 1), self.good), True)
        pairing = ((0, 1), (2, 3))
        self.assertIs(module.is_covered_along(ALL4, pairing, self.good), True)
        for value in bent:
            self.assertIs(module.is_covered_ears(ALL4, (0, 1), value), False, value)
            self.assertIs(module.is_covered_along(ALL4, pairing, value), False, value)

    def test_told_from_either_end(self):
        for value in ([((0, 3, 2, 1),), ((0, 2), (1, 3))], [((1, 2, 3, 0),), ((2, 0), (3, 1))],
                      [((1, 2, 3, 0),), ((3, 1), (0, 2))], [((0, 2, 3, 1),), ((0, 3), (2, 1))]):
            self.assertTrue(is_building(ALL4, (0, 1), value))
            self.assertIs(module.is_covered_ears(ALL4, (0, 1), value), True)

    def test_an_end_that_comes_with_the_other_ear(self):
        # (2, 3) joins two places of the first ear, which only comes in the same stage.
        web = (6, ((0, 1), (0, 3), (1, 2), (2, 3), (2, 5), (3, 4), (4, 5)))
        good = [((1, 2, 3, 0),), ((2, 5, 4, 3),)]
        self.assertTrue(is_building(web, (0, 1), good))
        self.assertIs(module.is_covered_ears(web, (0, 1), good), True)
        self.assertIs(module.is_covered_ears(web, (0, 1), [good[0] + good[1]]), False)
        self.assertIs(module.is_covered_ears(web, (0, 1), [good[1], good[0]]), False)

    def test_webs_on_the_way_are_covered(self):
        # One of the two ties that belong together, and a web that has no full pairing.
        for web, tie, value in [
            (ALL4, (0, 1), [((1, 2, 3, 0),), ((1, 3),), ((0, 2),)]),
            (plain.PRISM, (0, 1), [((0, 3, 4, 1),), ((0, 2), (3, 5)), ((1, 2), (4, 5)), ((2, 5),)]),
        ]:
            self.assertFalse(is_building(web, tie, value))
            self.assertIs(module.is_covered_ears(web, tie, value), False)

    def test_one_spot_changed(self):
        for web in covered_webs(9, 6)[:24]:
            tie = web[1][0]
            stages = module.covered_ears(web, tie)
            for at, stage in enumerate(stages):
                for spot, ear in enumerate(stage):
                    for place in range(len(ear)):
                        for x in range(web[0]):
                            other = ear[:place] + (x,) + ear[place + 1:]
                            bent = list(stages)
                            bent[at] = stage[:spot] + (other,) + stage[spot + 1:]
                            self.assertIs(module.is_covered_ears(web, tie, bent),
                                          is_building(web, tie, bent))
                for other in range(at):
                    bent = list(stages)
                    bent[at], bent[other] = bent[other], bent[at]
                    self.assertIs(module.is_covered_ears(web, tie, bent),
                                  is_building(web, tie, bent))


class Lone(unittest.TestCase):
    def test_bridges(self):
        for web in plain.small_webs(10, 40):
            many = len(plain.pieces(web))
            wanted = [tie for tie in web[1] if len(plain.pieces(
                (web[0], tuple(other for other in web[1] if other != tie)))) > many]
            self.assertEqual(module.bridges(web), wanted)
        self.assertEqual(module.bridges(plain.line(12)), list(plain.line(12)[1]))
        self.assertEqual(module.bridges(plain.ring(12)), [])
        self.assertEqual(module.bridges(plain.untied(12)), [])

    def half_webs(self, seed):
        """Webs of one full pairing each, with many other ties."""
        found = []
        for n, ties in plain.chance_webs(8, 30, seed):
            kept = [(x, y) for x, y in ties if x % 2 == 0]
            found.append((n, tuple(sorted(set(kept) | {(x, x + 1) for x in range(0, n, 2)}))))
        return found

    def test_lone_rows(self):
        lone = 0
        for web in plain.small_webs(11, 40) + plain.chance_webs(8, 20, 11) + self.half_webs(11):
            found = plain.full_pairings(web)
            row = module.lone_row(web)
            if len(found) != 1:
                self.assertIsNone(row)
                continue
            lone += 1
            self.assertEqual(tuple(sorted(row)), found[0])
            self.assertTrue(is_lone_row(web, row))
            self.assertIs(module.is_lone_row(web, row), True)
            self.assertLessEqual(len(web[1]), (web[0] // 2) ** 2)
            for other in permutations(row):
                self.assertIs(module.is_lone_row(web, list(other)), is_lone_row(web, other))
        self.assertGreater(lone, 40)

    def test_all_rows_of_ties(self):
        for web in plain.small_webs(12, 4):
            if web[0] in (2, 4, 6) and len(web[1]) < 9:
                for row in permutations(web[1], web[0] // 2):
                    self.assertIs(module.is_lone_row(web, list(row)), is_lone_row(web, row))

    def test_odd_none_and_many(self):
        for web in ((1, ()), (3, ((0, 1),)), plain.line(11), (2, ()), RING4, plain.all_tied(12)):
            self.assertIsNone(module.lone_row(web))
            for value in ([], [(0, 1)], [(0, 1), (2, 3)]):
                self.assertIs(module.is_lone_row(web, value), False)
        self.assertEqual(sorted(module.lone_row(plain.line(12))), list(plain.line(12)[1][::2]))

    def test_bent_rows(self):
        web = (6, ((0, 1), (0, 2), (1, 3), (1, 4), (2, 4), (4, 5)))
        good = [(4, 5), (1, 3), (0, 2)]
        self.assertIs(module.is_lone_row(web, good), True)
        for value in plain.wrong_in(good) + [
            good[:2], good + [(0, 1)], good + good, [(4, 5), (1, 3), (2, 0)], [(4, 5), (3, 1), (0, 2)],
            [(4, 5), (1, 3), [0, 2]], [(4, 5), (True, 3), (0, 2)], [(4, 5), (1, 3), (False, 2)],
            [(4, 5), (1, 3), (1, 3)], [(4, 5), (1, 3), (0, 1)], [(4, 5), (1, 3), (0, 2, 0)],
            [(4, 5), (1, 3), None], [(4, 5), (1, 3), ()], [(0, 2), (4, 5), (1, 3)],
            [(4, 5), (1, 3), (0, 9)], [(4, 5), (1, 3), ("a", "c")], ((4, 5), (1, 3), (0, 2)),
        ]:
            self.assertIs(module.is_lone_row(web, value), False, value)

    def test_names_of_the_interface(self):
        self.assertIs(module.takes_ear(other_place=0, place=1, web=RING4), True)
        self.assertEqual(len(module.covered_ears(tie=(0, 1), web=RING4)), 1)
        self.assertIs(module.is_covered_ears(value=[((0, 3, 2, 1),)], tie=(0, 1), web=RING4), True)
        pairing = ((0, 1), (2, 3))
        self.assertEqual(len(module.covered_along(pairing=pairing, web=RING4)), 1)
        self.assertIs(
            module.is_covered_along(value=[((0, 3, 2, 1),)], pairing=pairing, web=RING4), True)
        self.assertEqual(module.bridges(web=(2, ((0, 1),))), [(0, 1)])
        self.assertEqual(module.lone_row(web=(2, ((0, 1),))), [(0, 1)])
        self.assertIs(module.is_lone_row(value=[(0, 1)], web=(2, ((0, 1),))), True)
        self.assertEqual(pieces(RING4), [(0, 1, 2, 3)])
        self.assertEqual(idle_ties(RING4), [])


if __name__ == "__main__":
    unittest.main()
