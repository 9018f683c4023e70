import random
import unittest

from tests import plain
from everypairing.errors import InvalidLot, InvalidPairing, InvalidPlace, InvalidTie, InvalidWeb
from everypairing.errors import NotNearFull, TooMany
from everypairing.greatest import greatest_size, is_greatest, spare
from everypairing.joining import doubled, drawn, from_doubled, from_drawn, from_kernel
from everypairing.joining import from_stretched, joined_webs, kernel, put_in, stretched
from everypairing.joining import to_doubled, to_stretched
from everypairing.lots import lots, open_pieces
from everypairing.ears_odd import is_near_full
from everypairing.webs import beside, is_pairing, is_web, mirrored


def tied(web, x, y):
    return plain.tie_of(x, y) in web[1]


def web_by(n, is_tied):
    """The web of n places in which those are tied of which it is true, x less than y."""
    return (n, tuple((x, y) for x, y in plain.possible_ties(n) if is_tied(x, y)))


def neighbours(web, x):
    return tuple(y for y in range(web[0]) if y != x and tied(web, x, y))


def plain_joined(web, other):
    n = web[0]

    def is_tied(x, y):
        if y < n:
            return tied(web, x, y)
        return x < n or tied(other, x - n, y - n)

    return web_by(n + other[0], is_tied)


def plain_put_in(web, place, other):
    """Each place of the new web stands for one of the web or for one of the other web."""
    stands = [(x, None) for x in range(web[0]) if x != place]
    stands += [(place, y) for y in range(other[0])]

    def is_tied(a, b):
        (x, inner_x), (y, inner_y) = stands[a], stands[b]
        return tied(other, inner_x, inner_y) if x == y else tied(web, x, y)

    return web_by(len(stands), is_tied)


def plain_stretched(web, tie):
    n = web[0]
    ties = set(web[1]) - {tie} | {(tie[0], n), (tie[1], n + 1), (n, n + 1)}
    return (n + 2, tuple(sorted(ties)))


def plain_doubled(web, place, lot):
    n = web[0]
    ties = set(web[1]) - {plain.tie_of(place, y) for y in lot}
    ties |= {(y, n) for y in lot} | {(place, n + 1), (n, n + 1)}
    return (n + 2, tuple(sorted(ties)))


def plain_drawn(web, lot):
    parts = [(x,) for x in range(web[0]) if x not in lot] + [lot]
    return web_by(len(parts), lambda a, b: any(tied(web, x, y) for x in parts[a] for y in parts[b]
                                               if x != y))


def sub_lots(places):
    return [tuple(x for at, x in enumerate(places) if bits >> at & 1)
            for bits in range(1 << len(places))]


def small(many=20, most=6):
    webs = plain.small_webs(many=many)
    return [web for web in webs if web[0] <= most]


def ways_to_double(web, source, many=6):
    found = []
    for place in range(web[0]):
        choices = sub_lots(neighbours(web, place))
        found += [(place, lot) for lot in {choices[0], choices[-1], source.choice(choices)}]
    return source.sample(sorted(found), min(many, len(found)))


class Joined(unittest.TestCase):
    def check(self, told, wanted):
        self.assertIs(is_web(told), True)
        self.assertEqual(told, wanted)

    def test_joined_webs(self):
        source = random.Random(1)
        webs = small()
        for _ in range(200):
            web, other = source.choice(webs), source.choice(webs)
            told = joined_webs(web, other)
            self.check(told, plain_joined(web, other))
            n, m = web[0], other[0]
            sizes = greatest_size(web), greatest_size(other)
            # O1, O2
            self.assertEqual(greatest_size(beside(web, other)), sum(sizes))
            self.assertEqual(greatest_size(told), min((n + m) // 2, sizes[0] + m, sizes[1] + n))
        self.check(joined_webs((6, ()), (6, ())),
                   (12, tuple((x, y) for x in range(6) for y in range(6, 12))))

    def test_full_pairings_beside_one_another(self):
        # O1
        for web in plain.chance_webs(4, 10):
            for other in plain.chance_webs(4, 5, 3):
                moved = [tuple((x + 4, y + 4) for x, y in pairing)
                         for pairing in plain.full_pairings(other)]
                both = sorted(one + two for one in plain.full_pairings(web) for two in moved)
                self.assertEqual(plain.full_pairings(beside(web, other)), both)

    def test_put_in(self):
        source = random.Random(2)
        for web in small():
            for place in sorted({0, web[0] // 2, web[0] - 1}):
                other = source.choice(small(5))
                self.check(put_in(web, place, other), plain_put_in(web, place, other))
            self.check(put_in(web, web[0] - 1, (1, ())), web)
        for n, m in ((12, 1), (1, 12), (6, 7)):
            web, other = plain.ring(max(n, 3)) if n > 2 else (n, ()), plain.all_tied(m)
            for place in (0, n - 1):
                self.check(put_in(web, place, other), plain_put_in(web, place, other))

    def test_what_is_put_in_matters_little(self):
        # O3
        source = random.Random(3)
        for web in small(8, 5):
            for place in range(web[0]):
                rest = plain.without(web, (place,))
                sizes = [0 if rest is None else greatest_size(rest)]
                sizes += [greatest_size(put_in(web, place, (c, ()))) for c in range(1, 8)]
                for c in range(len(sizes) - 4):
                    self.assertLessEqual(sizes[c + 4] - sizes[c + 2], sizes[c + 2] - sizes[c])
                other = source.choice(plain.small_webs(many=2))
                m = other[0]
                most = max(i + sizes[m - 2 * i] for i in range(greatest_size(other) + 1))
                self.assertEqual(greatest_size(put_in(web, place, other)), most)

    def test_stretched_and_doubled(self):
        source = random.Random(4)
        for web in small(10):
            for tie in web[1]:
                told = stretched(web, tie)
                self.check(told, plain_stretched(web, tie))
                self.check_same_spare(web, told, None)
            for place, lot in ways_to_double(web, source):
                told = doubled(web, place, lot)
                self.check(told, plain_doubled(web, place, lot))
                self.check_same_spare(web, told, place)

    def check_same_spare(self, web, told, place):
        """O4"""
        self.assertEqual(greatest_size(told), greatest_size(web) + 1)
        self.assertEqual(spare(told), spare(web))
        before, behind = lots(web)[0], lots(told)[0]
        for x in range(web[0]):
            if x != place:
                self.assertEqual(x in before, x in behind)
            else:
                self.assertEqual(x in before, x in behind or web[0] in behind)

    def test_all_lots_that_can_be_doubled(self):
        for web in [plain.all_tied(4), plain.stars(5), plain.BOW]:
            for place in range(web[0]):
                near = neighbours(web, place)
                for lot in plain.lots_in_order(web[0]):
                    if set(lot) <= set(near):
                        self.check(doubled(web, place, lot), plain_doubled(web, place, lot))
                    else:
                        with self.assertRaises(InvalidLot):
                            doubled(web, place, lot)

    def test_drawn(self):
        for web in small(8):
            for lot in plain.lots_in_order(web[0]):
                if lot == ():
                    with self.assertRaises(InvalidLot):
                        drawn(web, lot)
                else:
                    self.check(drawn(web, lot), plain_drawn(web, lot))
        self.assertEqual(drawn(plain.all_tied(12), tuple(range(12))), (1, ()))
        self.assertEqual(drawn((1, ()), (0,)), (1, ()))

    def test_near_full_lots(self):
        # F8
        seen = set()
        for web in plain.chance_webs(5, 40) + plain.chance_webs(7, 25) + [plain.BOW, plain.ring(7)]:
            for lot in plain.lots_in_order(web[0])[1:]:
                both = is_near_full(plain.inner(web, lot)) and is_near_full(drawn(web, lot))
                if both:
                    self.assertTrue(is_near_full(web))
                elif is_near_full(web):
                    seen.add("not the other way round")
        self.assertTrue(seen)

    def test_mirrored(self):
        # O7
        for web in plain.small_webs(5, 20) + plain.large_webs():
            half = web[0] // 2
            both = greatest_size(web) + greatest_size(mirrored(web))
            self.assertTrue(half <= both <= 2 * half)

    def raised(self, kind, function, *arguments):
        with self.assertRaises(kind) as caught:
            function(*arguments)
        return caught.exception

    def test_twelve_places_at_most(self):
        for n, m in ((6, 7), (12, 1), (1, 12)):
            self.assertEqual(self.raised(TooMany, joined_webs, (n, ()), (m, ())).count, 12)
        for n, m in ((12, 2), (6, 8), (2, 12)):
            self.assertEqual(self.raised(TooMany, put_in, (n, ()), 0, (m, ())).count, 12)
        self.assertEqual(stretched(plain.line(10), (0, 1))[0], 12)
        self.assertEqual(doubled(plain.line(10), 0, ())[0], 12)
        self.assertEqual(to_stretched(plain.line(10), (0, 1), ()), ((10, 11),))
        self.assertEqual(from_stretched(plain.line(10), (0, 1), ((10, 11),)), ())
        self.assertEqual(to_doubled(plain.line(10), 1, (0, 2), ((0, 1),)), ((0, 10), (1, 11)))
        self.assertEqual(from_doubled(plain.line(10), 1, (0, 2), ((0, 10), (1, 11))), ((0, 1),))
        for n in (11, 12):
            web = plain.line(n)
            self.assertEqual(self.raised(TooMany, stretched, web, (0, 1)).count, 12)
            self.assertEqual(self.raised(TooMany, doubled, web, 1, (0, 2)).count, 12)
            self.assertEqual(self.raised(TooMany, to_stretched, web, (0, 1), ()).count, 12)
            self.assertEqual(self.raised(TooMany, to_doubled, web, 1, (), ((0, 1),)).count, 12)

    def test_too_many_comes_last(self):
        web = plain.line(12)
        self.raised(InvalidWeb, joined_webs, web, (13, ()))
        self.raised(InvalidPlace, put_in, web, 12, (13, ()))
        self.raised(InvalidWeb, put_in, web, 0, (13, ()))
        self.raised(InvalidTie, stretched, web, (0, 2))
        self.raised(InvalidPlace, doubled, web, 12, (3,))
        self.raised(InvalidLot, doubled, web, 0, (2,))
        self.raised(InvalidPairing, to_stretched, web, (0, 1), ((0, 2),))
        self.raised(InvalidLot, to_doubled, web, 0, (2,), ((0, 2),))
        self.raised(InvalidPairing, to_doubled, web, 0, (1,), ((0, 2),))
        self.raised(InvalidTie, from_stretched, web, (0, 2), ())
        self.raised(InvalidPairing, from_stretched, web, (0, 1), ())
        self.raised(InvalidLot, from_doubled, web, 0, (2,), ())
        self.raised(InvalidPairing, from_doubled, web, 0, (1,), ())
        self.raised(InvalidPairing, from_stretched, plain.line(11), (0, 1), ((2, 3),))


class Led(unittest.TestCase):
    def check_both(self, web, new, there, back):
        """O4, and that what is led is what the words say; there and back lead pairings."""
        n = web[0]
        for pairing in plain.every_pairing(web):
            led = there(pairing)
            self.assertTrue(is_pairing(new, led))
            self.assertEqual(len(led), len(pairing) + 1)
            self.assertEqual(back(led), pairing)
            if is_greatest(web, pairing):
                self.assertTrue(is_greatest(new, led))
        full = sorted(there(pairing) for pairing in plain.full_pairings(web))
        self.assertEqual(full, plain.full_pairings(new))
        for pairing in plain.every_pairing(new):
            led = back(pairing)
            self.assertTrue(is_pairing(web, led))
            if is_greatest(new, pairing):
                self.assertTrue(is_greatest(web, led))
            if 2 * len(pairing) == n + 2:
                self.assertEqual(there(led), pairing)

    def test_stretched(self):
        for web in small(6, 5):
            for tie in web[1]:
                self.check_both(web, stretched(web, tie),
                                lambda pairing: to_stretched(web, tie, pairing),
                                lambda pairing: from_stretched(web, tie, pairing))
                self.check_words_of_stretched(web, tie)

    def check_words_of_stretched(self, web, tie):
        n = web[0]
        ends = {(tie[0], n), (tie[1], n + 1)}
        for pairing in plain.every_pairing(web):
            wanted = set(pairing) - {tie} | ends if tie in pairing else set(pairing) | {(n, n + 1)}
            self.assertEqual(to_stretched(web, tie, pairing), tuple(sorted(wanted)))
        for pairing in plain.every_pairing(stretched(web, tie)):
            wanted = {(x, y) for x, y in pairing if y < n}
            if ends <= set(pairing):
                wanted |= {tie}
            self.assertEqual(from_stretched(web, tie, pairing), tuple(sorted(wanted)))

    def test_doubled(self):
        source = random.Random(7)
        for web in small(6, 5):
            for place, lot in ways_to_double(web, source, 4):
                self.check_both(web, doubled(web, place, lot),
                                lambda pairing: to_doubled(web, place, lot, pairing),
                                lambda pairing: from_doubled(web, place, lot, pairing))
                self.check_words_of_doubled(web, place, lot)

    def check_words_of_doubled(self, web, place, lot):
        n = web[0]
        for pairing in plain.every_pairing(web):
            mate = plain.mate(pairing, place)
            if mate in lot:
                wanted = set(pairing) - {plain.tie_of(mate, place)} | {(mate, n), (place, n + 1)}
            else:
                wanted = set(pairing) | {(n, n + 1)}
            self.assertEqual(to_doubled(web, place, lot, pairing), tuple(sorted(wanted)))
        for pairing in plain.every_pairing(doubled(web, place, lot)):
            wanted = {(x, y) for x, y in pairing if y < n}
            mate = plain.mate(pairing, n)
            if mate in lot and plain.mate(pairing, place) in (None, n + 1):
                wanted |= {plain.tie_of(mate, place)}
            self.assertEqual(from_doubled(web, place, lot, pairing), tuple(sorted(wanted)))

    def test_both_new_ends(self):
        web = plain.ring(4)
        self.assertEqual(from_stretched(web, (0, 1), ((0, 4), (1, 5))), ((0, 1),))
        self.assertEqual(from_stretched(web, (0, 1), ((0, 4), (2, 3))), ((2, 3),))
        self.assertEqual(from_stretched(web, (0, 1), ((2, 3), (4, 5))), ((2, 3),))
        self.assertEqual(from_stretched(web, (0, 1), ()), ())
        # Both of the place and of the first new one: what the place has stays.
        self.assertEqual(from_doubled(web, 0, (1,), ((0, 3), (1, 4))), ((0, 3),))
        self.assertEqual(from_doubled(web, 0, (1,), ((0, 5), (1, 4))), ((0, 1),))
        self.assertEqual(from_doubled(web, 0, (1,), ((1, 4), (2, 3))), ((0, 1), (2, 3)))
        self.assertEqual(from_doubled(web, 0, (), ((0, 1), (4, 5))), ((0, 1),))

    def test_new_pairings_that_are_none(self):
        web = plain.ring(4)
        wrong = [value for value in plain.wrong_in([(0, 1)]) if value != ()]
        for value in wrong + [((0, 4), (4, 5)), ((4, 0),), ((0, 6),), [(2, 3)]]:
            with self.assertRaises(InvalidPairing):
                from_stretched(web, (0, 1), value)
            with self.assertRaises(InvalidPairing):
                from_doubled(web, 0, (1,), value)
            if value != ((0, 1),):
                with self.assertRaises(InvalidPairing):
                    from_drawn(web, (0,), value)
        # (0, 1) went, (1, 4) is there only when doubled.
        self.assertEqual(from_doubled(web, 0, (1,), ((1, 4),)), ((0, 1),))
        with self.assertRaises(InvalidPairing):
            from_stretched(web, (0, 1), ((1, 4),))


def least_bad_place(web, lot):
    for place in lot:
        rest = tuple(x for x in lot if x != place)
        if rest and plain.spare(plain.inner(web, rest)) > 0:
            return place
    return None


class Drawn(unittest.TestCase):
    def test_from_drawn(self):
        for web in small(8) + [plain.ring(7), plain.all_tied(7)]:
            for lot in plain.lots_in_order(web[0])[1:]:
                new = drawn(web, lot)
                bad = least_bad_place(web, lot)
                for pairing in plain.every_pairing(new)[::1 if web[0] < 6 else 5]:
                    if bad is None:
                        self.check_led(web, lot, pairing)
                    else:
                        with self.assertRaises(NotNearFull) as caught:
                            from_drawn(web, lot, pairing)
                        self.assertEqual(caught.exception.place, bad)

    def check_led(self, web, lot, pairing):
        told = from_drawn(web, lot, pairing)
        self.assertTrue(is_pairing(web, told))
        kept = [x for x in range(web[0]) if x not in lot]
        last = len(kept)
        between = [tuple(sorted((kept[x], kept[y]))) for x, y in pairing if y != last]
        within = [tie for tie in told if set(tie) <= set(lot)]
        across = [tie for tie in told if len(set(tie) & set(lot)) == 1]
        self.assertEqual([tie for tie in told if not set(tie) & set(lot)], sorted(between))
        self.assertEqual(2 * len(within) + 1, len(lot))
        mate = plain.mate(pairing, last)
        self.assertEqual(len(across), 0 if mate is None else 1)
        if across:
            self.assertIn(kept[mate], across[0])

    def test_sizes(self):
        # O5
        for web in small(10) + plain.large_webs()[:6]:
            pieces = open_pieces(web)
            some = plain.lots_in_order(web[0])[1:40] if web[0] < 7 else []
            for lot in some + pieces:
                if len(lot) % 2 == 0 or least_bad_place(web, lot) is not None:
                    continue
                least = greatest_size(drawn(web, lot)) + (len(lot) - 1) // 2
                self.assertGreaterEqual(greatest_size(web), least)
                just = greatest_size(web) == least
                if lot in pieces:
                    self.assertTrue(just)
                if web[0] < 7:
                    most = max(len([tie for tie in pairing if set(tie) <= set(lot)])
                               for pairing in plain.greatest(web))
                    self.assertEqual(just, most == (len(lot) - 1) // 2)

    def test_errors_in_their_sequence(self):
        web = plain.line(4)
        with self.assertRaises(InvalidLot):
            from_drawn(web, (), None)
        with self.assertRaises(InvalidLot):
            from_drawn(web, (1, 0), None)
        with self.assertRaises(InvalidPairing):
            from_drawn(web, (0, 1, 2), ((0, 2),))
        with self.assertRaises(NotNearFull) as caught:
            from_drawn(web, (0, 1), ())
        self.assertEqual(caught.exception.place, 0)


def plain_kernel(web):
    """The webs behind each step, None for no place left, and the steps."""
    webs, steps = [web], []
    while webs[-1] is not None:
        now = webs[-1]
        near = [neighbours(now, x) for x in range(now[0])]
        x = min(range(now[0]), key=lambda place: (len(near[place]), place))
        if len(near[x]) > 2:
            break
        steps.append((("alone", "hanging", "drawn")[len(near[x])], x) + near[x])
        if len(near[x]) == 2:
            webs.append(plain_drawn(now, tuple(sorted((x,) + near[x]))))
        else:
            webs.append(plain.without(now, (x,) + near[x]))
    return webs, steps


class Kernel(unittest.TestCase):
    def check_kernel(self, web):
        webs, steps = plain_kernel(web)
        told = kernel(web)
        self.assertEqual(told, (webs[-1], steps))
        self.assertIs(type(told[1]), list)
        rest = told[0]
        words = [step[0] for step in steps]
        more = words.count("hanging") + words.count("drawn")
        # O6
        self.assertEqual(greatest_size(web), (greatest_size(rest) if rest else 0) + more)
        self.assertEqual(spare(web), (spare(rest) if rest else 0) + words.count("alone"))
        if rest:
            self.assertTrue(all(len(neighbours(rest, x)) >= 3 for x in range(rest[0])))
        return rest, more

    def check_back(self, web, pairing, more):
        told = from_kernel(web, pairing)
        self.assertTrue(is_pairing(web, told))
        self.assertEqual(len(told), len(pairing) + more)

    def test_against_a_plain_reckoning(self):
        for web in plain.small_webs(many=40) + plain.chance_webs(8, 20):
            rest, more = self.check_kernel(web)
            for pairing in plain.every_pairing(rest)[:80] if rest else [()]:
                self.check_back(web, pairing, more)

    def test_large_webs(self):
        for web in plain.large_webs(many=8):
            rest, more = self.check_kernel(web)
            if rest:
                self.check_back(web, (), more)
                for pairing in plain.every_pairing(rest)[::97]:
                    self.check_back(web, pairing, more)
                best = plain.greatest(rest)[0] if rest[0] < 10 else None
                if best is not None:
                    self.assertTrue(is_greatest(web, from_kernel(web, best)))
            else:
                self.assertTrue(is_greatest(web, from_kernel(web, ())))

    def test_webs_that_leave_no_rest(self):
        webs = [plain.line(n) for n in range(1, 13)] + [plain.ring(n) for n in range(3, 13)]
        webs += [plain.stars(n) for n in range(2, 13)] + [(12, ())]
        for web in webs:
            self.assertIsNone(kernel(web)[0])
            told = from_kernel(web, ())
            self.assertTrue(is_greatest(web, told))
            for value in plain.wrong_in([(0, 1)]) + [((0, 1),)]:
                if value != ():
                    with self.assertRaises(InvalidPairing):
                        from_kernel(web, value)

    def test_each_kind_of_step(self):
        self.assertEqual(kernel((2, ())), (None, [("alone", 0), ("alone", 0)]))
        self.assertEqual(kernel(plain.line(3)), (None, [("hanging", 0, 1), ("alone", 0)]))
        self.assertEqual(kernel(plain.line(2)), (None, [("hanging", 0, 1)]))
        self.assertEqual(kernel(plain.ring(3)), (None, [("drawn", 0, 1, 2), ("alone", 0)]))
        # Of equally few ties the least place is taken; a place alone goes ahead of others.
        self.assertEqual(kernel((4, ((0, 1), (0, 3), (1, 3))))[1][0], ("alone", 2))
        self.assertEqual(kernel((5, ((0, 1), (1, 2), (1, 3), (3, 4))))[1][0], ("hanging", 0, 1))
        self.assertEqual(kernel(plain.all_tied(4)), (plain.all_tied(4), []))
        self.assertEqual(kernel(plain.all_tied(12)), (plain.all_tied(12), []))

    def test_pairings_of_the_rest(self):
        web = beside(plain.all_tied(4), plain.line(3))
        self.assertEqual(kernel(web), (plain.all_tied(4), [("hanging", 4, 5), ("alone", 4)]))
        for pairing in plain.every_pairing(plain.all_tied(4)):
            told = from_kernel(web, pairing)
            self.assertEqual(len(told), len(pairing) + 1)
        for value in [((0, 4),), ((0, 1), (1, 2)), None, [(0, 1)], ((4, 5),)]:
            with self.assertRaises(InvalidPairing):
                from_kernel(web, value)


if __name__ == "__main__":
    unittest.main()
