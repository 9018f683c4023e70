import unittest
from fractions import Fraction
from math import gcd

from tests import plain
from everypairing import chances as module
from everypairing.errors import InvalidCount, InvalidPlace, InvalidWeights, TooMany

# Webs in which just 400, 401 and 402 ways begin with the place 0.
JUST_400 = (8, (
    (0, 1), (0, 4), (0, 6), (1, 2), (1, 3), (1, 4), (1, 6), (1, 7), (2, 7), (3, 4), (3, 6), (4, 5),
    (4, 6), (4, 7), (5, 6), (5, 7)))
ONE_MORE = (7, (
    (0, 1), (0, 2), (0, 6), (1, 3), (1, 4), (1, 5), (2, 3), (2, 4), (2, 5), (2, 6), (3, 4), (3, 5),
    (3, 6), (4, 6), (5, 6)))
TWO_MORE = (8, (
    (0, 1), (0, 2), (0, 3), (0, 4), (1, 3), (1, 4), (2, 3), (2, 6), (3, 5), (3, 6), (3, 7), (4, 6),
    (4, 7), (5, 6), (5, 7), (6, 7)))
WORTHS = ((1, 1), (2, 1), (1, 2), (3, 7), (1000, 999), (1, 1000))


def weighed(web, worth, fits):
    """The weight of the pairings that fit, divided by that of all."""
    part = Fraction(*worth)
    found = [(part ** len(pairing), pairing) for pairing in plain.every_pairing(web)]
    return sum(w for w, pairing in found if fits(pairing)) / sum(w for w, _ in found)


def ways(web, place, most=99):
    found = []
    waiting = [(place,)]
    while waiting:
        way = waiting.pop()
        found.append(way)
        if len(way) <= most:
            waiting += [way + (x,) for x in range(web[0])
                        if x not in way and plain.tie_of(way[-1], x) in web[1]]
    return sorted(found)


def paper(web, place, worth, most=99):
    """The chance paper, word for word from [35]."""
    t, b = worth
    found = ways(web, place, most)
    chance = {}
    for way in sorted(found, key=len, reverse=True):
        s = sum((chance[other] for other in chance if other[:-1] == way), Fraction(0))
        chance[way] = b / (b + t * s)
    return [(way, plain.pair_of(Fraction(chance[way]))) for way in found]


def small(seed, many):
    return [web for web in plain.small_webs(seed, many) if len(web[1]) < 14]


class Chances(unittest.TestCase):
    def test_alone_and_ties(self):
        for web in plain.small_webs(1, 8):
            for worth in WORTHS[:4]:
                for place in (0, web[0] - 1):
                    wanted = weighed(web, worth, lambda one: plain.mate(one, place) is None)
                    told = module.alone_chance(web, place, worth)
                    self.assertEqual(told, plain.pair_of(wanted))
                for tie in web[1][::3]:
                    wanted = weighed(web, worth, lambda one: tie in one)
                    self.assertEqual(module.tie_chance(web, tie, worth), plain.pair_of(wanted))

    def test_expected_ties(self):
        for web in plain.small_webs(2, 12):
            found = plain.every_pairing(web)
            for worth in WORTHS:
                part = Fraction(*worth)
                total = sum(part ** len(one) for one in found)
                wanted = sum(len(one) * part ** len(one) for one in found) / total
                self.assertEqual(module.expected_ties(web, worth), plain.pair_of(wanted))

    def test_the_default_worth(self):
        for web in small(3, 4)[-40:]:
            self.assertEqual(module.alone_chance(web, 0), module.alone_chance(web, 0, (1, 1)))
            self.assertEqual(module.expected_ties(web), module.expected_ties(web, worth=(1, 1)))
            for tie in web[1][:1]:
                self.assertEqual(module.tie_chance(web, tie), module.tie_chance(web, tie, (1, 1)))
            self.assertEqual(module.near_chance(web, 0, 2), module.near_chance(web, 0, 2, (1, 1)))
            if len(ways(web, 0)) <= 400:
                told = module.chance_paper(web, 0)
                self.assertEqual(told, module.chance_paper(web, 0, worth=(1, 1)))
                self.assertIs(module.is_chance_paper(web, 0, told), True)
                self.assertIs(module.is_chance_paper(web, 0, told, (2, 1)), len(told) == 1)

    def test_k10_and_k11(self):
        for web in plain.large_webs(4, 1):
            for worth in ((1, 1), (999, 1000), (1000, 1)):
                alone = [Fraction(*module.alone_chance(web, x, worth)) for x in range(web[0])]
                ties = {tie: Fraction(*module.tie_chance(web, tie, worth)) for tie in web[1]}
                for x in range(web[0]):
                    self.assertEqual(alone[x] + sum(ties[tie] for tie in ties if x in tie), 1)
                expected = module.expected_ties(web, worth)
                self.assertEqual(gcd(*expected), 1)
                self.assertEqual(Fraction(*expected), sum(ties.values()))
                self.assertEqual(2 * Fraction(*expected) + sum(alone), web[0])
            for x, y in web[1][::13]:
                rest = plain.without(web, (x,))
                told = Fraction(*module.alone_chance(web, x, (3, 7))) * Fraction(
                    *module.alone_chance(rest, y - 1, (3, 7))) * Fraction(3, 7)
                self.assertEqual(Fraction(*module.tie_chance(web, (x, y), (3, 7))), told)

    def test_known_ones(self):
        untied = plain.untied(12)
        self.assertEqual(module.alone_chance(untied, 3), (1, 1))
        self.assertEqual(module.expected_ties(untied), (0, 1))
        self.assertEqual(module.chance_paper(untied, 3), [((3,), (1, 1))])
        self.assertEqual(module.near_chance(untied, 3, 0), (1, 1))
        two = (2, ((0, 1),))
        self.assertEqual(module.alone_chance(two, 0, (1000, 1)), (1, 1001))
        self.assertEqual(module.tie_chance(two, (0, 1), (1, 1000)), (1, 1001))
        every = plain.all_tied(12)
        self.assertEqual(module.alone_chance(every, 7), plain.pair_of(Fraction(35696, 140152)))
        for told in (module.alone_chance(every, 0), module.tie_chance(every, (3, 4)),
                     module.expected_ties(every)):
            self.assertIs(type(told), tuple)
            self.assertEqual(gcd(*told), 1)


class Papers(unittest.TestCase):
    def test_against_the_words(self):
        for web in small(5, 8):
            for worth in WORTHS[:4]:
                for place in {0, web[0] - 1}:
                    wanted = paper(web, place, worth) if len(ways(web, place)) <= 400 else None
                    if wanted is not None:
                        told = module.chance_paper(web, place, worth)
                        self.assertEqual(told, wanted)
                        self.assertIs(module.is_chance_paper(web, place, told, worth), True)
                        self.assertEqual(told[0], ((place,), module.alone_chance(web, place, worth)))

    def test_k8(self):
        for web in small(6, 3)[-30:]:
            if len(ways(web, 0)) > 400:
                continue
            for way, chance in module.chance_paper(web, 0, (3, 7)):
                rest = tuple(x for x in range(web[0]) if x not in way[:-1])
                told = module.alone_chance(plain.inner(web, rest), rest.index(way[-1]), (3, 7))
                self.assertEqual(chance, told)

    def test_just_400_ways_and_more(self):
        told = module.chance_paper(JUST_400, 0)
        self.assertEqual(len(told), 400)
        self.assertEqual(told, paper(JUST_400, 0, (1, 1)))
        self.assertIs(module.is_chance_paper(JUST_400, 0, told), True)
        self.assertEqual(module.near_chance(JUST_400, 0, 12), told[0][1])
        for web, many in ((ONE_MORE, 401), (TWO_MORE, 402)):
            self.assertEqual(len(ways(web, 0)), many)
            self.raised(module.chance_paper, web, 0)
            self.raised(module.near_chance, web, 0, 12)
            self.assertIs(module.is_chance_paper(web, 0, paper(web, 0, (1, 1))), False)
            self.assertEqual(module.near_chance(web, 0, 2), paper(web, 0, (1, 1), 2)[0][1])

    def raised(self, function, *arguments):
        with self.assertRaises(TooMany) as caught:
            function(*arguments)
        self.assertEqual(caught.exception.count, 400)

    def test_too_many_comes_last(self):
        web = plain.all_tied(12)
        self.raised(module.chance_paper, web, 0)
        self.raised(module.near_chance, web, 0, 3)
        for worth in ((0, 1), (2, 2), None, (1, 1001)):
            with self.assertRaises(InvalidWeights):
                module.chance_paper(web, 0, worth)
            with self.assertRaises(InvalidWeights):
                module.near_chance(web, 0, 5, worth)
            with self.assertRaises(InvalidWeights):
                module.is_chance_paper(web, 0, None, worth)
        with self.assertRaises(InvalidPlace):
            module.chance_paper(web, 12, (0, 1))
        with self.assertRaises(InvalidCount):
            module.near_chance(web, 0, -1, (0, 1))

    def test_near_chance(self):
        for web in small(7, 6):
            for worth in WORTHS[:3]:
                for number in (0, 1, 2, 3, 4):
                    if len(ways(web, 0, number)) <= 400:
                        self.assertEqual(module.near_chance(web, 0, number, worth),
                                         paper(web, 0, worth, number)[0][1])

    def test_near_chance_of_few_ties(self):
        # More than 400 ways begin with the place, but not of at most so many ties.
        web = plain.all_tied(12)
        self.assertEqual(module.near_chance(web, 5, 0), (1, 1))
        self.assertEqual(module.near_chance(web, 5, 1), (1, 12))
        self.assertEqual(len(ways(web, 5, 2)), 122)
        self.assertEqual(module.near_chance(web, 5, 2), (1, 2))
        self.raised(module.near_chance, web, 5, 3)

    def test_k9(self):
        for web in small(8, 4) + [plain.ring(12), plain.line(12), plain.stars(12)]:
            if len(ways(web, 0)) > 400:
                continue
            exact = Fraction(*module.alone_chance(web, 0, (3, 7)))
            told = [Fraction(*module.near_chance(web, 0, k, (3, 7))) for k in range(13)]
            for k in range(11):
                if k % 2 == 0:
                    self.assertGreaterEqual(told[k], told[k + 2])
                    self.assertGreaterEqual(told[k], exact)
                else:
                    self.assertLessEqual(told[k], told[k + 2])
                    self.assertLessEqual(told[k], exact)
            longest = max(map(len, ways(web, 0))) - 1
            for number in (longest, longest + 1, 12, 10 ** 80):
                self.assertEqual(Fraction(*module.near_chance(web, 0, number, (3, 7))), exact)


class Bent(unittest.TestCase):
    web = plain.line(4)
    good = [((0,), (3, 5)), ((0, 1), (2, 3)), ((0, 1, 2), (1, 2)), ((0, 1, 2, 3), (1, 1))]

    def test_bent_in_every_way(self):
        a, b, c, d = self.good
        self.assertIs(module.is_chance_paper(self.web, 0, self.good), True)
        for value in plain.wrong_in(self.good) + [
            [], [a], [a, b, c], [b, c, d], [a, b, d, c], [a, b, c, d, d], [a, a, b, c, d],
            [a, b, c, ((0, 1, 2, 3), (2, 2))], [((0,), (6, 10)), b, c, d], [((0,), (3, 4)), b, c, d],
            [((0,), [3, 5]), b, c, d], [([0], (3, 5)), b, c, d], [[(0,), (3, 5)], b, c, d],
            [((False,), (3, 5)), b, c, d], [a, ((0, True), (2, 3)), c, d],
            [a, b, c, ((0, 1, 2, 3), (True, 1))], [a, b, c, ((0, 1, 2, 3), (1, True))],
            [a, b, ((0, 1, 2), (1, 2), ()), d], [a, b, ((1, 2), (0, 1, 2)), d], [a, b, c, ()],
            [a, b, c, None], [a, b, c, ((0, 1, 2, 3),)], [((0,), 3), b, c, d], [(0, (3, 5)), b, c, d],
            [a, b, c, ((0, 1, 2, 3), (1, 1, 1))], [((1,), (3, 5)), b, c, d], [a] * 500,
            [((0,), (-3, -5)), b, c, d], [(("a",), (3, 5)), b, c, d], [((0,), ("3", 5)), b, c, d],
            [((0.0,), (3, 5)), b, c, d], [((0,), (3.0, 5)), b, c, d],
        ]:
            self.assertIs(module.is_chance_paper(self.web, 0, value), False, value)
        self.assertIs(module.is_chance_paper(self.web, 1, self.good), False)
        self.assertIs(module.is_chance_paper(self.web, 0, self.good, (2, 1)), False)

    def test_one_number_changed(self):
        for web in (plain.ring(5), plain.BOW, plain.PRISM):
            told = module.chance_paper(web, 0, (2, 3))
            for at, (way, (top, bottom)) in enumerate(told):
                for line in ((way, (top + 1, bottom)), (way, (top, bottom + 1)), (way[1:], (top, bottom)),
                             (way, (2 * top, 2 * bottom)), (way + (0,), (top, bottom))):
                    bent = told[:at] + [line] + told[at + 1:]
                    self.assertIs(module.is_chance_paper(web, 0, bent, (2, 3)), False)
                self.assertIs(module.is_chance_paper(web, 0, told[:at] + told[at + 1:], (2, 3)), False)

    def test_a_place_with_many_ways(self):
        web = plain.all_tied(12)
        for value in (None, [], [((0,), (1, 1))], [((0,), (1, 1))] * 401):
            self.assertIs(module.is_chance_paper(web, 0, value), False)

    def test_names_of_the_interface(self):
        web = self.web
        self.assertEqual(module.alone_chance(worth=(2, 1), place=0, web=web), (5, 11))
        self.assertEqual(module.tie_chance(worth=(1, 1), tie=(0, 1), web=web), (2, 5))
        self.assertEqual(module.chance_paper(worth=(1, 1), place=0, web=web), self.good)
        self.assertIs(
            module.is_chance_paper(worth=(1, 1), value=self.good, place=0, web=web), True)
        self.assertEqual(module.near_chance(worth=(1, 1), number=2, place=0, web=web), (2, 3))
        self.assertEqual(module.expected_ties(worth=(1, 1), web=web), (1, 1))


if __name__ == "__main__":
    unittest.main()
