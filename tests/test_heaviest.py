import random
import unittest

from tests import plain
from everypairing.errors import InvalidPricing, InvalidWeights, NotTwoSided, TooMany
from everypairing.heaviest import heaviest, is_pricing, pricing, pricing_cost, size_weights
from everypairing.sides import sides

MOST = 1000000


def weightings(web, source):
    """Weights of many kinds: 0, equal ones, one very large one, 1,000,000 each, small and any."""
    many = len(web[1])
    found = [(0,) * many, (1,) * many, (MOST,) * many]
    if many:
        large = [source.randrange(4) for _ in range(many)]
        large[source.randrange(many)] = MOST
        found.append(tuple(large))
    found.append(tuple(source.randrange(3) for _ in range(many)))
    found.append(tuple(source.randrange(10) for _ in range(many)))
    found.append(tuple(source.randrange(MOST + 1) for _ in range(many)))
    return found


def cases(webs, seed=1):
    source = random.Random(seed)
    return [(web, weights) for web in webs for weights in weightings(web, source)]


def small():
    return plain.small_webs(many=25) + plain.chance_webs(8, 12) + [plain.all_tied(8), plain.ring(8)]


def weight(web, weights, pairing):
    told = dict(zip(web[1], weights))
    return sum(told[tie] for tie in pairing)


def by_size(web, weights):
    found = {}
    for pairing in plain.every_pairing(web):
        found.setdefault(len(pairing), []).append(weight(web, weights, pairing))
    return [max(found[size]) for size in sorted(found)]


def bears(web, weights, prices, lots):
    return all(
        prices[x] + prices[y] + sum(price for lot, price in lots if x in lot and y in lot) >= heavy
        for (x, y), heavy in zip(web[1], weights)
    )


def cost(prices, lots):
    return sum(prices) + sum((len(lot) - 1) // 2 * price for lot, price in lots)


def is_two_sided(web):
    try:
        sides(web)
    except NotTwoSided:
        return False
    return True


class Heaviest(unittest.TestCase):
    def check_heaviest(self, web, weights, most):
        told = heaviest(web, weights)
        self.assertIs(type(told), tuple)
        self.assertEqual(len(told), 2)
        self.assertIs(type(told[0]), int)
        self.assertEqual(told[0], most)
        pairing = told[1]
        self.assertEqual(pairing, tuple(sorted(set(pairing))))
        self.assertTrue(set(pairing) <= set(web[1]))
        ends = [place for tie in pairing for place in tie]
        self.assertEqual(len(set(ends)), len(ends))
        self.assertEqual(weight(web, weights, pairing), most)

    def test_against_all_pairings(self):
        for web, weights in cases(small()):
            told = by_size(web, weights)
            self.check_heaviest(web, weights, max(told))
            self.assertEqual(size_weights(web, weights), told)
            self.assertIs(type(size_weights(web, weights)), list)

    def test_large_webs(self):
        for web, weights in cases(plain.large_webs()):
            told = size_weights(web, weights)
            self.check_heaviest(web, weights, max(told))
            self.assertEqual(len(told), plain_size(web) + 1)
            steps = [one - other for one, other in zip(told[1:], told)]
            # L3
            self.assertEqual(steps, sorted(steps, reverse=True))

    def test_a_greatest_pairing_need_not_be_heaviest(self):
        self.assertEqual(heaviest(plain.line(4), (1, 5, 1)), (5, ((1, 2),)))
        self.assertEqual(size_weights(plain.line(4), (1, 5, 1)), [0, 5, 2])
        self.assertEqual(size_weights(plain.line(4), (0, 0, 0)), [0, 0, 0])
        self.assertEqual(heaviest(plain.untied(3), ()), (0, ()))
        self.assertEqual(size_weights((1, ()), ()), [0])

    def test_weights_that_are_none(self):
        path = plain.line(4)
        for function in (heaviest, size_weights, pricing):
            for weights in [(1, 5), (1, 5, 1, 1), [1, 5, 1], (1, -1, 1), (1, MOST + 1, 1),
                            (1, True, 1), (1, "5", 1), (1, None, 1), (1, (5,), 1), (), None, 7]:
                with self.assertRaises(InvalidWeights):
                    function(path, weights)
            function(path, (0, MOST, 0))


def plain_size(web):
    """The size of any web, found by the places one after the other."""
    known = {}

    def best(left):
        if not left:
            return 0
        if left not in known:
            x, rest = left[0], left[1:]
            found = best(rest)
            for y in rest:
                if (x, y) in web[1]:
                    found = max(found, 1 + best(tuple(z for z in rest if z != y)))
            known[left] = found
        return known[left]

    return best(tuple(range(web[0])))


class Pricings(unittest.TestCase):
    def test_a_pricing_costs_what_a_heaviest_pairing_weighs(self):
        for web, weights in cases(small()):
            told = pricing(web, weights)
            prices, lots = told
            self.assertIs(is_pricing(web, weights, told), True)
            self.assertTrue(bears(web, weights, prices, lots))
            self.assertEqual(cost(prices, lots), max(by_size(web, weights)))
            self.assertEqual(pricing_cost(web, weights, told), cost(prices, lots))
            if is_two_sided(web):
                self.assertEqual(lots, [])

    def test_two_sided_webs_have_no_lots(self):
        for web, weights in cases(plain.two_sided_webs(3, 60)):
            prices, lots = pricing(web, weights)
            self.assertEqual(lots, [])
            self.assertEqual(sum(prices), heaviest(web, weights)[0])
            self.assertTrue(bears(web, weights, prices, lots))

    def test_lots_within_lots(self):
        # A heavy triangle in a ring of five: both lots are wanted.
        web = (5, ((0, 1), (0, 2), (0, 4), (1, 2), (2, 3), (3, 4)))
        prices, lots = pricing(web, (3, 3, 1, 3, 1, 1))
        self.assertEqual(cost(prices, lots), heaviest(web, (3, 3, 1, 3, 1, 1))[0])
        told = [pricing(plain.all_tied(7), (heavy,) * 21) for heavy in (1, 5)]
        self.assertEqual(told, [((0,) * 7, [(tuple(range(7)), 1)]), ((0,) * 7, [(tuple(range(7)), 5)])])

    def test_no_pairing_weighs_more_than_any_pricing(self):
        source = random.Random(4)
        for web, weights in cases(plain.chance_webs(5, 20), 5):
            most = max(by_size(web, weights))
            for _ in range(10):
                # L1, for pricings that are not the cheapest.
                prices = tuple(source.randrange(4) for _ in range(5))
                lots = [(lot, source.randrange(1, 4)) for lot in plain.lots_in_order(5)
                        if len(lot) in (3, 5) and source.random() < 0.4]
                value = (prices, sorted(lots))
                right = bears(web, weights, prices, lots)
                self.assertIs(is_pricing(web, weights, value), right)
                if right:
                    self.assertGreaterEqual(pricing_cost(web, weights, value), most)

    def test_pricings_of_large_webs(self):
        # L1, by the dearest tie of each place and by the lot of all places
        for web, weights in cases(plain.large_webs(many=1), 7):
            most = heaviest(web, weights)[0]
            prices = [0] * web[0]
            for (x, y), heavy in sorted(zip(web[1], weights), key=lambda row: -row[1]):
                if prices[x] + prices[y] < heavy:
                    prices[x] = heavy - prices[y]
            found = [(tuple(prices), [])]
            if web[0] % 2 and max(weights, default=0):
                found.append(((0,) * web[0], [(tuple(range(web[0])), max(weights))]))
            for value in found:
                self.assertGreaterEqual(pricing_cost(web, weights, value), most)

    def test_what_shows_both_to_be_right(self):
        # L2
        for web, weights in cases(plain.chance_webs(6, 15), 6):
            prices, lots = pricing(web, weights)
            pairing = heaviest(web, weights)[1]
            told = dict(zip(web[1], weights))
            for x, y in pairing:
                paid = prices[x] + prices[y]
                paid += sum(price for lot, price in lots if x in lot and y in lot)
                self.assertEqual(paid, told[(x, y)])
            for place, price in enumerate(prices):
                if price:
                    self.assertIsNotNone(plain.mate(pairing, place))
            for lot, _ in lots:
                within = [tie for tie in pairing if set(tie) <= set(lot)]
                self.assertEqual(len(within), (len(lot) - 1) // 2)

    def test_prices_of_places_alone_cost_more(self):
        # L4
        tri, ones = plain.all_tied(3), (1, 1, 1)
        for prices in [(x, y, z) for x in range(3) for y in range(3) for z in range(3)]:
            if is_pricing(tri, ones, (prices, [])):
                self.assertGreaterEqual(pricing_cost(tri, ones, (prices, [])), 2)
        self.assertEqual(pricing_cost(tri, ones, ((0, 0, 0), [((0, 1, 2), 1)])), 1)

    def test_too_many_places(self):
        web = plain.line(8)
        self.assertEqual(pricing_cost(web, (3,) * 7, pricing(web, (3,) * 7)), 12)
        for n in (9, 10, 12):
            web = plain.line(n)
            with self.assertRaises(TooMany) as caught:
                pricing(web, (3,) * (n - 1))
            self.assertEqual(caught.exception.count, 8)
            with self.assertRaises(InvalidWeights):
                pricing(web, (3,) * n)
            # The other functions have no bound.
            self.assertEqual(heaviest(web, (3,) * (n - 1))[0], 3 * (n // 2))
            value = ((3,) * n, [])
            self.assertIs(is_pricing(web, (3,) * (n - 1), value), True)
            self.assertEqual(pricing_cost(web, (3,) * (n - 1), value), 3 * n)


FIVE = plain.all_tied(5)
TWOS = (2,) * 10
PRICES = (0, 0, 0, 1, 1)
LOTS = [((0, 1, 2), 1), ((0, 1, 2, 3, 4), 1)]


class Bent(unittest.TestCase):
    def test_the_straight_one(self):
        self.assertIs(is_pricing(FIVE, TWOS, (PRICES, LOTS)), True)
        self.assertEqual(pricing_cost(FIVE, TWOS, (PRICES, LOTS)), 5)
        self.assertIs(is_pricing(FIVE, TWOS, ((1,) * 5, [])), True)
        self.assertIs(is_pricing(FIVE, TWOS, ((10 ** 80,) * 5, [((0, 1, 2), 10 ** 80)])), True)

    def test_bent_in_every_way(self):
        whole = (0, 1, 2, 3, 4)
        bent = [
            ((0, 0, 0, 1, 0), LOTS), ((0, 0, 0, 1), LOTS), ((0, 0, 0, 1, 1, 0), LOTS),
            (list(PRICES), LOTS), (PRICES, tuple(LOTS)), [PRICES, LOTS], (PRICES,), (PRICES, LOTS, []),
            ((3, 3, 3, -1, 3), LOTS), ((3, 3, 3, 3, -1), []), ((True, 0, 0, 1, 1), LOTS),
            ((0, 0, False, 1, 1), LOTS), (("0", 0, 0, 1, 1), LOTS), ((None, 1, 1, 1, 1), []),
            (PRICES, LOTS[::-1]), (PRICES, LOTS[:1]), (PRICES, LOTS[1:]), (PRICES, [LOTS[0]] + LOTS),
            (PRICES, LOTS + [(whole, 2)]), (PRICES, [LOTS[0], (whole, 1), (whole, 2)]),
            (PRICES, [((0, 1), 1)] + LOTS), (PRICES, [((), 1)] + LOTS), (PRICES, [((0,), 1)] + LOTS),
            (PRICES, [((0, 1, 2, 3), 1), (whole, 1)]), (PRICES, LOTS + [((1, 2, 3, 4), 1)]),
            (PRICES, LOTS + [((1, 2, 3), 0)]), (PRICES, LOTS + [((1, 2, 3), -1)]),
            (PRICES, [((0, 1, 2), True), (whole, 1)]), (PRICES, [((0, 1, 2), "1"), (whole, 1)]),
            (PRICES, [([0, 1, 2], 1), (whole, 1)]), (PRICES, [[(0, 1, 2), 1], (whole, 1)]),
            (PRICES, [((0, 2, 1), 1), (whole, 1)]), (PRICES, [((0, 1, 1, 2, 2), 1), (whole, 1)]),
            (PRICES, [((0, True, 2), 1), (whole, 1)]), (PRICES, [((0, 1, 2), 1, 0), (whole, 1)]),
            (PRICES, [((0, 1, 2),), (whole, 1)]), (PRICES, [((0, 1, 5), 1)] + LOTS),
            (PRICES, LOTS + [((2, 3, 9), 1)]), (PRICES, LOTS + [None]), (PRICES, LOTS + [()]),
            (PRICES, LOTS + [((1, 2, 3), None)]), (PRICES, None), (None, LOTS), (PRICES, dict(LOTS)),
        ]
        wrong = [value for value in plain.wrong_in([PRICES, LOTS]) if value != (PRICES, LOTS)]
        for value in bent + wrong:
            self.assertIs(is_pricing(FIVE, TWOS, value), False, value)
            with self.assertRaises(InvalidPricing):
                pricing_cost(FIVE, TWOS, value)

    def test_each_price_less_by_one(self):
        for web, weights in cases(plain.chance_webs(6, 12), 8):
            prices, lots = pricing(web, weights)
            parts = [(at, price) for at, price in enumerate(prices)]
            for at, price in parts:
                less = prices[:at] + (price - 1,) + prices[at + 1:]
                self.assertIs(is_pricing(web, weights, (less, lots)), False)
            for at, (lot, price) in enumerate(lots):
                less = lots[:at] + [(lot, price - 1)] + lots[at + 1:]
                self.assertIs(is_pricing(web, weights, (prices, less)), False)

    def test_deep_and_long_values(self):
        deep = ()
        for _ in range(39):
            deep = (deep,)
        for value in [deep, [(PRICES, LOTS)], (0,) * 7000, ["ab"] * 7000, (PRICES, [LOTS[0]] * 2000),
                      (PRICES, [LOTS])]:
            self.assertIs(is_pricing(FIVE, TWOS, value), False)

    def test_the_pricing_is_looked_at_last(self):
        with self.assertRaises(InvalidWeights):
            pricing_cost(FIVE, (2,) * 9, (PRICES, LOTS))
        with self.assertRaises(InvalidWeights):
            is_pricing(FIVE, (2,) * 9, None)


if __name__ == "__main__":
    unittest.main()
