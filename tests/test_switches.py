import random
import unittest

from tests import plain
from everypairing import switches as module
from everypairing.errors import InvalidSwitch, NotGreatest, TooMany
from everypairing.greatest import greatest_pairing, is_longer_row
from everypairing.lots import leaving
from everypairing.shares_of_ties import greatest_avoiding, loose_ties

HUBS = (10, tuple((x, y) for x in range(4) for y in range(4, 10)))
LINE = plain.line(5)
SIX = plain.ring(6)


def parts_of(pairing, other):
    """The parts of the difference, told as in [25]."""
    left = sorted(set(pairing) ^ set(other))
    found = []
    while left:
        places = set(left[0])
        while any(len(places & set(tie)) == 1 for tie in left):
            places |= {x for tie in left if places & set(tie) for x in tie}
        ties = [tie for tie in left if set(tie) <= places]
        left = [tie for tie in left if tie not in ties]
        found.append(told(ties))
    return sorted(found)


def told(ties):
    """The ties of one part as a round or a row."""
    places = sorted({x for tie in ties for x in tie})
    ends = [x for x in places if sum(x in tie for tie in ties) == 1]
    row = [ends[0] if ends else places[0]]
    left = list(ties)
    while left:
        beside = min(y for tie in left for x, y in (tie, tie[::-1]) if x == row[-1])
        left.remove(plain.tie_of(row[-1], beside))
        row.append(beside)
    return ("row", tuple(row)) if ends else ("round", tuple(row[:-1]))


def ties_of(switch):
    kind, places = switch
    row = places + places[:1] if kind == "round" else places
    return [plain.tie_of(x, y) for x, y in zip(row, row[1:])]


def behind(pairing, switch):
    return tuple(sorted(set(pairing) ^ set(ties_of(switch))))


def all_switches(web, pairing):
    """All switches of a pairing, from [26]: each row of unlike places is looked at."""
    found = []

    def lengthen(row):
        for kind in ("round", "row"):
            if fits(web, pairing, (kind, row)):
                found.append((kind, row))
        for x in range(web[0]):
            if x not in row and plain.tie_of(row[-1], x) in web[1]:
                lengthen(row + (x,))

    for x in range(web[0]):
        lengthen((x,))
    return sorted(found)


def fits(web, pairing, switch):
    kind, row = switch
    if len(row) < (4 if kind == "round" else 3) or len(row) % 2 != (kind == "row"):
        return False
    if kind == "round":
        if row[0] != min(row) or row[1] > row[-1]:
            return False
    elif row[0] > row[-1]:
        return False
    ties = ties_of(switch)
    turns = [tie in pairing for tie in ties]
    if not set(ties) <= set(web[1]) or any(x == y for x, y in zip(turns, turns[1:])):
        return False
    if kind == "round":
        return True
    return plain.mate(pairing, row[-1] if turns[0] else row[0]) is None


def is_small(switch):
    return len(ties_of(switch)) == {"round": 4, "row": 2}[switch[0]]


def distances(start, beside):
    """The least number of steps from the start to each one that can be reached."""
    found = {start: 0}
    for one in (waiting := [start]):
        for other in beside[one]:
            if other not in found:
                found[other] = found[one] + 1
                waiting.append(other)
    return found


def webs(seed, many):
    return [web for web in plain.small_webs(seed, many) if len(plain.greatest(web)) < 70]


def some(found, many, seed):
    return found if len(found) <= many else random.Random(seed).sample(found, many)


class Difference(unittest.TestCase):
    def test_any_two_pairings(self):
        for web in plain.small_webs(1, 10):
            found = some(plain.every_pairing(web), 14, 1)
            for pairing in found:
                for other in found:
                    parts = parts_of(pairing, other)
                    self.assertEqual(module.difference(web, pairing, other), parts)

    def test_h1(self):
        for web in webs(2, 12):
            found = some(plain.greatest(web), 10, 2)
            for pairing in found:
                for other in found:
                    parts = module.difference(web, pairing, other)
                    here = pairing
                    for part in parts[::-1]:
                        self.assertIs(module.is_switch(web, pairing, part), True)
                        self.assertIs(module.is_switch(web, other, part), True)
                        here = module.switched(web, here, part)
                    self.assertEqual(here, other)

    def test_h3_one_place_for_one(self):
        for web in webs(16, 8):
            found = some(plain.greatest(web), 8, 16)
            for pairing in found:
                here = set(plain.alone(web, pairing))
                for other in found:
                    there = set(plain.alone(web, other))
                    ends = set()
                    for kind, places in module.difference(web, pairing, other):
                        after = set(plain.alone(web, module.switched(web, pairing, (kind, places))))
                        self.assertEqual(len(here - after), int(kind == "row"))
                        self.assertEqual(len(after - here), int(kind == "row"))
                        if kind == "row":
                            ends |= {places[0], places[-1]}
                    self.assertEqual(ends, here ^ there)

    def test_told(self):
        six = plain.all_tied(6)
        self.assertEqual(module.difference(six, (), ((2, 5),)), [("row", (2, 5))])
        self.assertEqual(module.difference(six, ((3, 5),), ((2, 5),)), [("row", (2, 5, 3))])
        self.assertEqual(module.difference(six, ((0, 5), (1, 4)), ((0, 4), (1, 5))),
                         [("round", (0, 4, 1, 5))])
        self.assertEqual(module.difference(six, ((0, 4), (1, 5)), ((0, 5), (1, 4), (2, 3))),
                         [("round", (0, 4, 1, 5)), ("row", (2, 3))])
        self.assertEqual(module.difference(six, (), ()), [])


class Switches(unittest.TestCase):
    def test_all_of_them(self):
        for web in webs(3, 4)[-45:] + plain.every_web(4):
            for pairing in some(plain.every_pairing(web), 5, 3):
                good = all_switches(web, pairing)
                for switch in good:
                    self.assertIs(module.is_switch(web, pairing, switch), True)
                    after = module.switched(web, pairing, switch)
                    self.assertEqual(after, behind(pairing, switch))
                    self.assertEqual(len(after), len(pairing))
                    self.assertIn(after, plain.every_pairing(web))
                    self.check_bent(web, pairing, switch, good)

    def check_bent(self, web, pairing, switch, good):
        kind, row = switch
        bent = [(kind, row[::-1]), (kind, row[1:] + row[:1]), (kind, row[:-1]), (kind, row[1:]),
                (kind, row + row[:1]), ("row" if kind == "round" else "round", row)]
        turned = [row[at:] + row[:at] for at in range(len(row))]
        bent += [(kind, one) for way in turned for one in (way, way[::-1], way + way)]
        bent += [(kind, row[:at] + (x,) + row[at + 1:])
                 for at in range(len(row)) for x in range(web[0] + 1)]
        for value in bent:
            self.assertIs(module.is_switch(web, pairing, value), value in good)

    def test_bent_in_every_way(self):
        pairing = ((0, 1), (2, 3), (4, 5))
        round6 = ("round", (0, 1, 2, 3, 4, 5))
        self.assertIs(module.is_switch(SIX, pairing, round6), True)
        for value in plain.wrong_in([round6]) + [
            ("round", (0, 5, 4, 3, 2, 1)), ("round", (1, 2, 3, 4, 5, 0)), ("row", round6[1]),
            ["round", round6[1]], ("round", list(round6[1])), ("round",) + round6[1],
            ("round", (0, 1, 2, 3, 4)), ("round", (0, 1, 2, 3)), ("round", (0, 1)), ("round", ()),
            ("Round", round6[1]), (b"round", round6[1]), ("round", round6[1], None), ("round",),
            ("round", (False, 1, 2, 3, 4, 5)), ("round", (0, True, 2, 3, 4, 5)), (round6,),
            ("round", (0, 1, 2, 3, 4, 6)), ("round", (0, 1, 2, 3, 4, -1)), ("round", (0, 1, 2, 1)),
            ("round", (0, 1, 2, 3, 4, "5")), ("round", None), (None, round6[1]), (0, round6[1]),
        ]:
            self.refused(SIX, pairing, value)
        here = ((0, 1), (2, 3))
        self.assertIs(module.is_switch(LINE, here, ("row", (2, 3, 4))), True)
        self.assertIs(module.is_switch(LINE, here, ("row", (0, 1, 2, 3, 4))), True)
        for value in [
            ("row", (4, 3, 2)), ("row", (2, 3)), ("row", (1, 2, 3, 4)), ("row", (0, 1, 2)),
            ("row", (1, 2, 3)), ("row", (3, 4)), ("row", (2, 4, 3)), ("row", (2,)), ("row", ()),
            ("row", [2, 3, 4]), ["row", (2, 3, 4)], ("row", (2, 3, 5)), ("row", (0, 3, 4)),
            ("row", (4, 3, 2, 1, 0)), ("round", (0, 1, 2, 3)), ("row", (2, 3, 4), ()),
            ("row", (2, 3, 4, 3, 2)), ("row", (2, True, 4)), ("row", "cde"),
        ]:
            self.refused(LINE, here, value)
        # Places twice: a round gone along twice, and a row that meets itself.
        self.refused(plain.ring(4), ((0, 1), (2, 3)), ("round", (0, 1, 2, 3) * 2))
        ties = ((0, 1), (1, 2), (1, 4), (2, 3), (3, 4))
        self.refused((5, ties), ((1, 2), (3, 4)), ("row", (0, 1, 2, 3, 4, 1, 2)))
        # The ends alone are wrong: 0 has a mate, and both ends' ties are of the pairing.
        self.refused(plain.line(4), ((0, 1), (2, 3)), ("row", (1, 2, 3)))
        self.refused(plain.line(4), ((0, 1), (2, 3)), ("row", (0, 1, 2, 3)))

    def refused(self, web, pairing, value):
        self.assertIs(module.is_switch(web, pairing, value), False, value)
        with self.assertRaises(InvalidSwitch, msg=value):
            module.switched(web, pairing, value)


class Rows(unittest.TestCase):
    def test_fewest_against_a_search(self):
        for web in webs(4, 8) + [web for web in plain.chance_webs(8, 8, 4)
                                 if len(plain.greatest(web)) < 60]:
            found = plain.greatest(web)
            beside = {one: [two for two in found if len(parts_of(one, two)) == 1] for one in found}
            for pairing in some(found, 6, 4):
                steps = distances(pairing, beside)
                for other in some(found, 12, 5):
                    self.check_row(web, pairing, other, steps[other])

    def check_row(self, web, pairing, other, fewest):
        self.assertEqual(module.fewest_switches(web, pairing, other), fewest)
        row = module.switch_row(web, pairing, other)
        self.assertEqual(len(row), fewest)
        self.assertIs(module.is_switch_row(web, pairing, other, row), True)
        here = pairing
        for switch in row:
            self.assertTrue(fits(web, here, switch))
            here = behind(here, switch)
        self.assertEqual(here, other)
        parts = parts_of(pairing, other)
        self.assertLessEqual(fewest, len(parts))
        self.assertGreaterEqual(fewest, len([kind for kind, _ in parts if kind == "row"]))
        if web[0] <= 9:
            self.assertEqual(fewest, len(parts))

    def test_ten_places(self):
        """The hubs, and hubs that are tied with one another, against all greatest pairings."""
        source = random.Random(6)
        lower = 0
        for web in (HUBS, (10, tuple(sorted(HUBS[1] + ((0, 1), (2, 3)))))):
            found = plain.greatest(web)
            here = ((0, 4), (1, 5), (2, 6), (3, 7))
            first = [one for one in found if len(parts_of(here, one)) == 1]
            three = [one for one in found if len(parts_of(here, one)) == 3]
            self.assertGreater(len(three), 5)
            for other in source.sample(three, 6) + [((0, 5), (1, 4), (2, 8), (3, 9))]:
                two = any(len(parts_of(one, other)) == 1 for one in first)
                lower += two
                self.check_row(web, here, other, 2 if two else 3)
        self.assertGreater(lower, 2)

    def test_three_rounds(self):
        here = ((0, 1), (2, 3), (4, 5), (6, 7), (8, 9), (10, 11))
        there = ((0, 2), (1, 3), (4, 6), (5, 7), (8, 10), (9, 11))
        web = plain.all_tied(12)
        self.check_row(web, here, there, 2)
        squares = (12, tuple(sorted(here + there)))
        self.check_row(squares, here, there, 3)
        bound = (12, tuple(sorted(here + there + ((3, 4), (7, 8)))))
        self.check_row(bound, here, there, 3)

    def test_rows_alone(self):
        web = (12, tuple((x, x + 1) for x in range(12) if x % 3 < 2))
        here = tuple((x, x + 1) for x in range(0, 12, 3))
        there = tuple((x + 1, x + 2) for x in range(0, 12, 3))
        self.check_row(web, here, there, 4)
        self.check_row(plain.all_tied(11), greatest_pairing(plain.all_tied(11)),
                       leaving(plain.all_tied(11), 0), 1)

    def test_is_switch_row(self):
        here, there = ((0, 1), (2, 3)), ((1, 2), (3, 4))
        good = [[("row", (0, 1, 2, 3, 4))], [("row", (2, 3, 4)), ("row", (0, 1, 2))]]
        for row in good:
            self.assertIs(module.is_switch_row(LINE, here, there, row), True)
            self.assertIs(module.is_switch_row(LINE, there, here, row[::-1]), True)
            self.assertIs(module.is_switch_row(LINE, here, here, row), False)
            self.assertIs(module.is_switch_row(LINE, here, here, row + row[::-1]), True)
        for value in plain.wrong_in(good[0]) + [
            good[1][::-1], good[1][:1], good[1] + good[1], [good[0]], [["row", (0, 1, 2, 3, 4)]],
            good[0] + [None], good[0] + [()], tuple(good[1]), good[0] * 2, [("row", (2, 3, 4))] * 500,
        ]:
            self.assertIs(module.is_switch_row(LINE, here, there, value), False, value)
        self.assertIs(module.is_switch_row(LINE, here, here, []), True)
        self.assertIs(module.is_switch_row(LINE, here, there, []), False)
        # Of pairings that are not greatest, too.
        self.assertIs(module.is_switch_row(LINE, ((0, 1),), ((2, 3),), []), False)
        self.assertIs(module.is_switch_row(LINE, ((0, 1),), ((1, 2),), [("row", (0, 1, 2))]), True)

    def test_is_switch_row_of_random_rows(self):
        source = random.Random(7)
        for web in webs(7, 5)[-40:]:
            found = plain.greatest(web)
            for _ in range(4):
                here = start = source.choice(found)
                row = []
                for _ in range(4):
                    fitting = all_switches(web, here)
                    if fitting:
                        row.append(source.choice(fitting))
                        here = behind(here, row[-1])
                self.assertIs(module.is_switch_row(web, start, here, row), True)
                for other in found:
                    self.assertIs(module.is_switch_row(web, start, other, row), other == here)


class Single(unittest.TestCase):
    def test_switch_at(self):
        for web in webs(8, 15):
            found = plain.greatest(web)
            for pairing in some(found, 8, 8):
                told = []
                for tie in web[1]:
                    switch = module.switch_at(web, pairing, tie)
                    told.append(switch)
                    having = sum(tie in one for one in found)
                    self.assertEqual(switch is None, having in (0, len(found)))
                    if switch is not None:
                        self.assertTrue(fits(web, pairing, switch))
                        self.assertIn(tie, ties_of(switch))
                self.assertEqual(set(told) <= {None}, len(found) == 1)

    def test_switch_to_alone(self):
        for web in webs(9, 15):
            found = plain.greatest(web)
            opened = plain.lots(web)[0]
            for pairing in some(found, 8, 9):
                for place in range(web[0]):
                    switch = module.switch_to_alone(web, pairing, place)
                    none = plain.mate(pairing, place) is None or place not in opened
                    self.assertEqual(switch is None, none)
                    if switch is not None:
                        self.assertTrue(fits(web, pairing, switch))
                        self.assertIsNone(plain.mate(behind(pairing, switch), place))

    def test_large(self):
        for web in plain.large_webs(10, 1):
            pairing = greatest_pairing(web)
            for tie in web[1][::7]:
                switch = module.switch_at(web, pairing, tie)
                self.assertEqual(switch is None, tie not in loose_ties(web))
                if switch is not None:
                    self.assertTrue(fits(web, pairing, switch))
            for place in range(web[0]):
                switch = module.switch_to_alone(web, pairing, place)
                if switch is not None:
                    self.assertIsNone(plain.mate(behind(pairing, switch), place))


class Between(unittest.TestCase):
    def test_against_all_greatest_pairings(self):
        for web in webs(11, 12):
            found = plain.greatest(web)
            for pairing in some(found, 6, 11):
                for other in some(found, 6, 12):
                    between = [one for one in found if set(pairing) & set(other) <= set(one)
                               and set(one) <= set(pairing) | set(other)]
                    self.assertEqual(module.between_count(web, pairing, other), len(between))
                    for number in range(len(between)):
                        self.assertEqual(module.nth_between(web, pairing, other, number),
                                         between[number])
                    for number in (len(between), len(between) + 1, 10 ** 80):
                        self.assertIsNone(module.nth_between(web, pairing, other, number))

    def test_h5(self):
        for web in plain.large_webs(13, 1):
            pairing = greatest_pairing(web)
            others = [greatest_avoiding(web, tie) for tie in pairing]
            for other in [one for one in others if one is not None]:
                count = 1
                for kind, places in module.difference(web, pairing, other):
                    count *= 2 if kind == "round" else (len(places) + 1) // 2
                self.assertEqual(module.between_count(web, pairing, other), count)
                told = [module.nth_between(web, pairing, other, at) for at in range(count)]
                self.assertEqual(told, sorted(set(told)))
                self.assertIn(pairing, told)
                self.assertIn(other, told)


class Small(unittest.TestCase):
    def classes(self, found, beside):
        left = list(found)
        told = []
        while left:
            part = sorted(distances(left[0], beside))
            told.append(part)
            left = [one for one in left if one not in part]
        return told

    def test_small_classes_and_rows(self):
        for web in webs(14, 10) + [web for web in plain.chance_webs(8, 10, 14)
                                   if len(plain.greatest(web)) < 60]:
            found = plain.greatest(web)
            beside = {one: [two for two in found if len(parts_of(one, two)) == 1
                            and is_small(parts_of(one, two)[0])] for one in found}
            self.assertEqual(module.small_classes(web), self.classes(found, beside))
            for pairing in some(found, 5, 14):
                steps = distances(pairing, beside)
                for other in some(found, 8, 15):
                    row = module.small_row(web, pairing, other)
                    self.assertEqual(row is None, other not in steps)
                    if row is not None:
                        self.assertEqual(len(row), steps[other])
                        self.assertTrue(all(is_small(switch) for switch in row))
                        self.assertIs(module.is_switch_row(web, pairing, other, row), True)

    def test_h6(self):
        for n in range(1, 9):
            self.assertEqual(len(module.small_classes(plain.all_tied(n))), 1)
        for n in (6, 8):
            self.assertEqual([len(one) for one in module.small_classes(plain.ring(n))], [1, 1])
        two = (8, plain.ring(4)[1] + tuple((x + 4, y + 4) for x, y in plain.ring(4)[1]))
        self.assertEqual(len(module.small_classes(two)), 1)
        six = plain.ring(6)[1] + ((6, 7),)
        self.assertEqual(len(module.small_classes((8, six))), 2)
        self.assertEqual(module.small_classes((8, ())), [[()]])
        self.assertEqual(module.small_row((8, ()), (), ()), [])
        self.assertIsNone(module.small_row(SIX, ((0, 1), (2, 3), (4, 5)), ((0, 5), (1, 2), (3, 4))))

    def test_h6_several_pieces(self):
        for web in plain.small_webs(17, 25) + plain.chance_webs(8, 40, 17):
            pieces = plain.pieces(web)
            if len(pieces) > 1:
                count = 1
                for piece in pieces:
                    count *= len(module.small_classes(plain.inner(web, piece)))
                self.assertEqual(len(module.small_classes(web)), count)
        self.assertEqual(len(module.small_classes((8, SIX[1] + ((6, 7),)))), 2)

    def test_too_many_places(self):
        for n in (9, 12):
            for web in (plain.all_tied(n), plain.untied(n), plain.line(n)):
                pairing = greatest_pairing(web)
                for call in (lambda: module.small_classes(web),
                             lambda: module.small_row(web, pairing, pairing)):
                    with self.assertRaises(TooMany) as caught:
                        call()
                    self.assertEqual(caught.exception.count, 8)
        self.assertEqual(len(module.small_classes(plain.all_tied(8))[0]), 105)


class NotGreatestOnes(unittest.TestCase):
    def test_the_first_one_then_the_other_one(self):
        for web in plain.small_webs(15, 6):
            good = plain.greatest(web)[0]
            bad = [one for one in plain.every_pairing(web) if len(one) < len(good)]
            for low in some(bad, 4, 15):
                for pairing, other in ((low, good), (good, low), (low, ()), (low, low)):
                    for call in (module.fewest_switches, module.switch_row, module.between_count,
                                 module.small_row,
                                 lambda *three: module.nth_between(*three, 0)):
                        self.raised(web, pairing if pairing != good else other,
                                    call, (web, pairing, other))
                if web[1]:
                    self.raised(web, low, module.switch_at, (web, low, web[1][0]))
                self.raised(web, low, module.switch_to_alone, (web, low, 0))

    def raised(self, web, meant, function, arguments):
        with self.assertRaises(NotGreatest) as caught:
            function(*arguments)
        self.assertIs(is_longer_row(web, meant, caught.exception.row), True)

    def test_names_of_the_interface(self):
        here, there = ((0, 1), (2, 3)), ((1, 2), (3, 4))
        two = {"other_pairing": there, "pairing": here, "web": LINE}
        self.assertEqual(module.difference(**two), [("row", (0, 1, 2, 3, 4))])
        self.assertIs(module.is_switch(value=("row", (2, 3, 4)), pairing=here, web=LINE), True)
        self.assertEqual(module.switched(switch=("row", (2, 3, 4)), pairing=here, web=LINE),
                         ((0, 1), (3, 4)))
        self.assertIs(module.is_switch_row(value=[], **two), False)
        self.assertEqual(module.fewest_switches(**two), 1)
        self.assertEqual(module.switch_row(**two), [("row", (0, 1, 2, 3, 4))])
        self.assertEqual(module.between_count(**two), 3)
        self.assertEqual(module.nth_between(number=0, **two), here)
        self.assertEqual(len(module.small_row(**two)), 2)
        self.assertEqual(module.small_classes(web=LINE), [[here, ((0, 1), (3, 4)), there]])
        self.assertIsNotNone(module.switch_at(tie=(0, 1), pairing=here, web=LINE))
        self.assertIsNone(module.switch_to_alone(place=1, pairing=here, web=LINE))


if __name__ == "__main__":
    unittest.main()
