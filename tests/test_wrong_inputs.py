import copy
import unittest
from itertools import combinations

from tests import functions, plain
from tests.functions import EARS, FIVE, PATH, SQUARE, STAR
from tests.test_webs import NO_WEBS
from everypairing import barriers, chances, ears_covered, ears_odd, errors, greatest, heaviest
from everypairing import joining, losses, lots, mixtures, numbered, paper_texts, sides, switches, webs

HALVES = ((1, 2),) * 4
# What no place, lot, tie .. is, in any web of some places; [], None and the like fit nowhere.
ODD = [None, True, False, "", "ab", [], {}, [0], [0, 1], [(0, 1)], 1.0, b"a"]
NO_PLACE = ODD + [-1, 5, 12, 10 ** 80, (), (0,), ((0, 1),)]
NO_LOT = ODD + [0, (5,), (-1,), (0, 0), (1, 0), (False,), (0, True), ("0",), (None,), ([0],),
                ((0,),), ((0, 1),), (0, 1, 2, 3, 4, 5), 10 ** 80]
NO_TIES = ODD + [0, (0, 1), ((1, 0),), ((0, 0),), ((0, 1), (0, 1)), ((2, 3), (0, 1)), ((0, 7),),
                 ((0, 3),), ((False, 1),), ((0, True),), ([0, 1],), ((0, 1, 2),), ("ab",), (None,)]
WRONG = {
    "web": [value for value in NO_WEBS if not isinstance(value, dict)],
    "other_web": NO_WEBS,
    "pairing": NO_TIES + [((0, 1), (1, 2))],
    "other_pairing": NO_TIES + [((0, 1), (1, 2))],
    "size": [value for value in ODD if value is not None] + [-1, -10 ** 80, (), (0,), "0"],
    "worth": ODD + [0, 1, (), (1,), (1, 1, 1), (0, 1), (1, 0), (-1, 1), (1, -1), (2, 2), (1001, 1),
                    (1, 1001), (10 ** 80, 1), (True, 1), (1, True), [1, 1], ("1", 1), ((1, 1),), (None, 1)],
    "shares": ODD + [0, (), HALVES[:3], HALVES * 2, list(HALVES), HALVES[:3] + ((2, 4),),
                     HALVES[:3] + ([1, 2],), HALVES[:3] + ((1, 3),), HALVES[:3] + ((1, 2, 0),),
                     ((1, 1),) * 4, ((0, 1),) * 4, ((3, 2), (-1, 2), (-1, 2), (3, 2)), ((1, -2),) * 4,
                     ((-1, -2),) * 4, ((True, 1), (0, 1), (0, 1), (1, 1)), ((1, True), (0, 1), (0, 1), (1, 1)),
                     ((1, 1), (0, 2), (0, 1), (1, 1)), ((1, 1), (0, 0), (0, 1), (1, 1)), (None,) * 4,
                     ((1, 1), 0, 0, (1, 1)), ((1, 1), (False, 1), (0, 1), (1, 1)), (("1", 2),) * 4, (1, 0, 0, 1)],
    "weights": ODD + [0, (), (1,) * 4, (1,) * 6, [1] * 5, (1, 1, -1, 1, 1), (1, 1, 1000001, 1, 1),
                      (1, 1, True, 1, 1), (False, 1, 1, 1, 1), (1, 1, 1, 1, None), ("1",) * 5,
                      (1, 1, 1, 1, (1,)), ((1, 1),) * 5, (10 ** 80,) * 5],
    "walk": ODD + [0, (), [1, 2], (1, 1), (1, 2, 1), (1, 3), (1, 2, 4), (5,), (-1,), (True,),
                   (0, True), (False, 1), (0, 1, None), ("1",), ((1, 2),), ([1],), (0, 1, 2, 3, 4, 0)],
    "count": ODD + [-1, 3, 12, 10 ** 80, -10 ** 80, (), (1,), "1"],
    "number": ODD + [-1, -10 ** 80, (), (0,), "0", ((0, 1),)],
    "switch": ODD + [0, (), ("row",), ("row", (2, 3, 4), ()), ["row", (2, 3, 4)],
                     ("row", [2, 3, 4]), ("round", (2, 3, 4)), ("row", (4, 3, 2)), (b"row", (2, 3, 4)),
                     ("row", (2, 3)), ("row", ()), ("row", (2,)), ("row", (2, 3, 4, 0)),
                     ("row", (2, 3, 5)), ("row", (False, 3, 4)), ("row", (1, 2, 3)), (0, (2, 3, 4)),
                     ("Row", (2, 3, 4)), (("row", (2, 3, 4)),), ("row", (2, 3, 4), None),
                     ("row", (2, 4, 3)), ("row", (2, 3, 2)), ("row", "cde"), (None, (2, 3, 4))],
    "place": NO_PLACE,
    "goal": NO_PLACE,
    "other_place": NO_PLACE + [0],
    "lot": NO_LOT,
    "tie": ODD + [0, (), (0,), (1, 0), (0, 0), (0, 3), (0, 9), (0, 1, 2), ("a", "b"), (0, True),
                  (False, 1), (None, 1), ((0,), 1), ((0, 1),)],
    "ties": NO_TIES,
    "row": ODD + [0, (), (0,), (0, 1, 2), (0, 0, 1, 2, 3), (0, 1, 2, 3, 5), (False, 1, 2, 3, 4),
                  (0, True, 2, 3, 4), ("a", 1, 2, 3, 4), ([0], 1, 2, 3, 4)],
    "ears": ODD + [0, (), tuple(EARS), [()], [(0, 1)], EARS + EARS, [list(EARS[0])]],
    "text": [None, True, 0, [], (), ("d:ab",), b"d:", {}, "", "x", "d", "d:x", "d:ab,", "d:ab,ab"],
}
WRONG["worths"] = WRONG["weights"]
WRONG["new_pairing"] = NO_TIES + [((0, 1), (1, 2)), ((3, 7),), ((6, 7),)]
ERRORS = {
    "web": "InvalidWeb", "other_web": "InvalidWeb", "pairing": "InvalidPairing",
    "place": "InvalidPlace", "goal": "InvalidPlace", "other_place": "InvalidPlace",
    "lot": "InvalidLot", "tie": "InvalidTie", "ties": "InvalidTies", "row": "InvalidRow",
    "ears": "InvalidEars", "text": "InvalidText", "other_pairing": "InvalidPairing",
    "number": "InvalidCount", "switch": "InvalidSwitch", "size": "InvalidCount",
    "worth": "InvalidWeights", "shares": "InvalidShares", "weights": "InvalidWeights",
    "worths": "InvalidWeights", "walk": "InvalidWalk", "count": "InvalidCount",
    "new_pairing": "InvalidPairing",
}
# Nothing is raised for these.
FREE = ("value", "sized")

NINE = plain.ring(9)
DENSE = plain.all_tied(12)


def wrong_for(function, name):
    """Some values are wrong for a parameter of some functions and right for others."""
    values = list(WRONG[name])
    if name == "tie" and function.__name__ == "with_tie":
        values = [value for value in values if value != (0, 3)] + [(0, 1), (3, 4)]
    if name == "lot" and function in (webs.inner, joining.drawn, joining.from_drawn):
        values.append(())
    if name == "lot" and function.__name__.endswith("doubled"):
        values += [(0,), (2,), (1, 2), (1, 2, 4)]
    if function in (barriers.pieces_left, barriers.met_pieces) and name in ("lot", "pairing"):
        values = [value for value in values if value != ((0, 3),)]
    if name == "pairing" and function in (ears_odd.ears_along, ears_covered.covered_along):
        values += [(), ((0, 1),)]
    if function in (ears_covered.covered_ears, ears_covered.covered_along):
        # (0, 3) is a tie of the square.
        values = [value for value in values if value not in ((0, 3), ((0, 3),))]
    return values


class WrongInputs(unittest.TestCase):
    def raised(self, function, arguments):
        before = copy.deepcopy(arguments)
        with self.assertRaises(errors.PairError, msg=(function, arguments)) as caught:
            function(*arguments)
        self.assertEqual(repr(arguments), repr(before))
        return type(caught.exception).__name__

    def test_each_wrong_parameter(self):
        for function, names, fitting in functions.calls():
            for at, name in enumerate(names):
                if name in FREE:
                    continue
                for value in wrong_for(function, name):
                    arguments = fitting[:at] + [value] + fitting[at + 1:]
                    self.assertEqual(self.raised(function, arguments), ERRORS[name],
                                     (function.__name__, arguments))

    def test_two_wrong_ones_at_once(self):
        for function, names, fitting in functions.calls():
            spots = [at for at, name in enumerate(names) if name not in FREE]
            for first, second in combinations(spots, 2):
                for value in wrong_for(function, names[first])[:8]:
                    for other in wrong_for(function, names[second])[:8]:
                        arguments = list(fitting)
                        arguments[first] = value
                        arguments[second] = other
                        self.assertEqual(self.raised(function, arguments), ERRORS[names[first]])

    def test_any_value_where_any_may_be_passed(self):
        deep = []
        for _ in range(39):
            deep = [deep, (0,)]
        values = NO_WEBS + NO_TIES + NO_LOT + NO_PLACE + [deep, tuple(range(7999)), "a" * 20000]
        for function, names, fitting in functions.calls():
            if "value" in names:
                at = names.index("value")
                for value in values:
                    if function is heaviest.pricing_cost:
                        with self.assertRaises(errors.InvalidPricing):
                            function(*(fitting[:at] + [value] + fitting[at + 1:]))
                        continue
                    told = function(*(fitting[:at] + [value] + fitting[at + 1:]))
                    self.assertIs(told in (True, False), True)
        for value in values:
            for place in (0, 4):
                if value != EARS:
                    with self.assertRaises(errors.InvalidEars):
                        ears_odd.near_by_ears(FIVE, place, value, value)
        # [] is a building of a web of one place, () a pairing and a lot.
        self.assertIs(ears_odd.is_odd_ears((1, ()), 0, []), True)

    def test_errors_of_the_points_come_last(self):
        cases = [
            (webs.beside, [(9, ()), (13, ())], "InvalidWeb"),
            (webs.beside, [(9, ()), (4, ())], "TooMany"),
            (barriers.barriers, [(13, ())], "InvalidWeb"),
            (barriers.barriers, [(9, ())], "TooMany"),
            (barriers.place_classes, [(0, ())], "InvalidWeb"),
            (barriers.place_classes, [STAR], "NotFull"),
            (barriers.pieces_left, [PATH, (0, 4)], "InvalidLot"),
            (barriers.pieces_left, [PATH, (0, 3)], "NotBarrier"),
            (barriers.met_pieces, [PATH, (0, 3), ((0, 2),)], "InvalidPairing"),
            (barriers.met_pieces, [PATH, (0, 4), ((0, 2),)], "InvalidLot"),
            (barriers.met_pieces, [PATH, (0, 3), ((0, 1),)], "NotBarrier"),
            (barriers.met_pieces, [PATH, (0, 2), ((0, 1),)], "NotGreatest"),
            (lots.held, [PATH, ((0, 3),)], "InvalidPairing"),
            (lots.held, [PATH, ()], "NotGreatest"),
            (ears_odd.odd_ears, [PATH, 4], "InvalidPlace"),
            (ears_odd.odd_ears, [PATH, 0], "NotBuilt"),
            (ears_odd.ears_along, [PATH, ((0, 1),)], "InvalidPairing"),
            (ears_odd.ears_along, [(3, ((0, 1),)), ()], "InvalidPairing"),
            (ears_odd.ears_along, [(3, ((0, 1),)), ((0, 1),)], "NotBuilt"),
            (ears_odd.near_by_ears, [PATH, 0, [], 9], "InvalidEars"),
            (ears_odd.near_by_ears, [FIVE, 0, EARS, 9], "InvalidPlace"),
            (ears_covered.takes_ear, [STAR, 0, 0], "InvalidPlace"),
            (ears_covered.takes_ear, [STAR, 4, 0], "InvalidPlace"),
            (ears_covered.takes_ear, [PATH, 0, 1], "NotCovered"),
            (ears_covered.covered_ears, [PATH, (0, 2)], "InvalidTie"),
            (ears_covered.covered_ears, [PATH, (0, 1)], "NotCovered"),
            (ears_covered.covered_along, [PATH, ((1, 2),)], "InvalidPairing"),
            (ears_covered.covered_along, [PATH, ((0, 1), (2, 3))], "NotCovered"),
            (ears_covered.covered_along, [STAR, ((0, 1),)], "InvalidPairing"),
            (switches.switched, [PATH, ((0, 2),), None], "InvalidPairing"),
            (switches.fewest_switches, [PATH, (), ((0, 2),)], "InvalidPairing"),
            (switches.fewest_switches, [PATH, (), ((0, 1),)], "NotGreatest"),
            (switches.switch_row, [PATH, ((0, 1), (2, 3)), ((0, 1),)], "NotGreatest"),
            (switches.switch_at, [PATH, (), (0, 2)], "InvalidTie"),
            (switches.switch_at, [PATH, (), (0, 1)], "NotGreatest"),
            (switches.switch_to_alone, [PATH, (), 4], "InvalidPlace"),
            (switches.switch_to_alone, [PATH, (), 0], "NotGreatest"),
            (switches.between_count, [PATH, (), ()], "NotGreatest"),
            (switches.between_count, [PATH, (), ((0, 2),)], "InvalidPairing"),
            (switches.nth_between, [PATH, (), ((0, 2),), 0], "InvalidPairing"),
            (switches.switch_row, [PATH, (), ((0, 2),)], "InvalidPairing"),
            (switches.small_row, [PATH, (), ((0, 2),)], "InvalidPairing"),
            (switches.nth_between, [PATH, (), (), -1], "InvalidCount"),
            (switches.nth_between, [PATH, (), (), 0], "NotGreatest"),
            (switches.small_classes, [(9, ((8, 9),))], "InvalidWeb"),
            (switches.small_classes, [(9, ())], "TooMany"),
            (switches.small_row, [(9, ()), (), ((0, 1),)], "InvalidPairing"),
            (switches.small_row, [(9, ((0, 1),)), ((0, 1),), ()], "NotGreatest"),
            (switches.small_row, [(9, ()), (), ()], "TooMany"),
            (sides.nth_short_lot, [FIVE, -1], "InvalidCount"),
            (sides.nth_short_lot, [FIVE, 0], "NotTwoSided"),
            (sides.is_short_lot, [FIVE, (5,)], "InvalidLot"),
            (sides.is_short_lot, [FIVE, ()], "NotTwoSided"),
            (sides.cover_by, [FIVE, (5,)], "InvalidLot"),
            (sides.cover_by, [FIVE, (4,)], "NotTwoSided"),
            (sides.cover_by, [SQUARE, (0,)], "NotShort"),
            (sides.partners, [FIVE, (5,)], "InvalidLot"),
            (mixtures.crossing, [SQUARE, HALVES[:3], (4,)], "InvalidShares"),
            (mixtures.crossing, [SQUARE, HALVES, (4,)], "InvalidLot"),
            (mixtures.mixture, [(9, ()), ()], "InvalidShares"),
            (mixtures.mixture, [NINE, ((1, 2),) * 9], "TooMany"),
            (mixtures.mixture, [FIVE, ((1, 2),) * 5], "NotMixture"),
            (numbered.nth_pairing, [PATH, -1, -1], "InvalidCount"),
            (numbered.pairing_rank, [PATH, ((0, 2),), None], "InvalidPairing"),
            (chances.chance_paper, [DENSE, 0, (0, 1)], "InvalidWeights"),
            (chances.chance_paper, [DENSE, 12, (0, 1)], "InvalidPlace"),
            (chances.chance_paper, [DENSE, 0], "TooMany"),
            (chances.near_chance, [DENSE, 0, -1, (0, 1)], "InvalidCount"),
            (chances.near_chance, [DENSE, 0, 5, (0, 1)], "InvalidWeights"),
            (chances.near_chance, [DENSE, 0, 5], "TooMany"),
            (chances.is_chance_paper, [DENSE, 0, None, (0, 1)], "InvalidWeights"),
            (chances.alone_chance, [DENSE, 12, (0, 1)], "InvalidPlace"),
            (chances.tie_chance, [DENSE, (0, 12), (0, 1)], "InvalidTie"),
            (heaviest.pricing, [NINE, (1,) * 8], "InvalidWeights"),
            (heaviest.pricing, [NINE, (1,) * 9], "TooMany"),
            (heaviest.pricing_cost, [NINE, (1,) * 8, None], "InvalidWeights"),
            (heaviest.pricing_cost, [NINE, (1,) * 9, None], "InvalidPricing"),
            (losses.least_loss, [(9, ((8, 9),))], "InvalidWeb"),
            (losses.least_loss, [(9, ())], "TooMany"),
            (losses.unextended, [STAR, 3], "InvalidCount"),
            (losses.unextended, [STAR, 2], "NotFull"),
            (losses.unextended, [NINE, 1], "NotFull"),
            (losses.unextended, [DENSE, 7], "InvalidCount"),
            (losses.unextended, [DENSE, 6], "TooMany"),
            (losses.unfull_without_two, [(9, ((8, 9),))], "InvalidWeb"),
            (losses.unfull_without_two, [NINE], "NotFull"),
            (losses.unfull_without_two, [DENSE], "TooMany"),
            (joining.joined_webs, [DENSE, (0, ())], "InvalidWeb"),
            (joining.joined_webs, [DENSE, (1, ())], "TooMany"),
            (joining.put_in, [DENSE, 0, (0, ())], "InvalidWeb"),
            (joining.put_in, [DENSE, 0, (2, ())], "TooMany"),
            (joining.doubled, [DENSE, 0, (0,)], "InvalidLot"),
            (joining.doubled, [DENSE, 0, (1,)], "TooMany"),
            (joining.to_doubled, [DENSE, 0, (1,), ((0, 1), (1, 2))], "InvalidPairing"),
            (joining.to_doubled, [DENSE, 0, (1,), ((0, 1),)], "TooMany"),
            (joining.from_doubled, [DENSE, 0, (0,), ()], "InvalidLot"),
            (joining.from_doubled, [DENSE, 0, (1,), ()], "InvalidPairing"),
            (joining.stretched, [DENSE, (0, 12)], "InvalidTie"),
            (joining.stretched, [DENSE, (0, 11)], "TooMany"),
            (joining.to_stretched, [DENSE, (0, 1), None], "InvalidPairing"),
            (joining.to_stretched, [DENSE, (0, 1), ()], "TooMany"),
            (joining.from_stretched, [DENSE, (0, 1), ()], "InvalidPairing"),
            (joining.from_drawn, [PATH, (0, 1), None], "InvalidPairing"),
            (joining.from_drawn, [PATH, (0, 1), ()], "NotNearFull"),
            (joining.from_kernel, [PATH, ((0, 1),)], "InvalidPairing"),
            (paper_texts.paper_text, [STAR, (), (4,)], "InvalidLot"),
            (paper_texts.paper_text, [STAR, (), ()], "NotMeeting"),
            (paper_texts.paper_told, ["d:ab;ab,ac;"], "InvalidText"),
            (paper_texts.paper_told, ["d:ab;;"], "NotMeeting"),
            (greatest.lengthened, [PATH, ((0, 2),), ()], "InvalidPairing"),
            (greatest.lengthened, [PATH, ((0, 1),), ()], "InvalidRow"),
        ]
        for function, arguments, error in cases:
            self.assertEqual(self.raised(function, arguments), error, (function, arguments))

    def test_the_fields(self):
        for function, arguments, field, value in [
            (barriers.pieces_left, [PATH, (0, 3)], "excess", -2),
            (barriers.met_pieces, [PATH, (0, 1, 2, 3), ()], "excess", -4),
            (ears_odd.odd_ears, [PATH, 0], "lot", (0,)),
            (barriers.barriers, [(9, ())], "count", 8),
            (webs.beside, [(12, ()), (1, ())], "count", 12),
            (switches.small_classes, [(9, ())], "count", 8),
            (mixtures.mixture, [NINE, ((1, 2),) * 9], "count", 8),
            (mixtures.mixture, [FIVE, ((1, 2),) * 5], "lot", (0, 1, 2, 3, 4)),
            (chances.chance_paper, [DENSE, 0], "count", 400),
            (chances.near_chance, [DENSE, 0, 5], "count", 400),
            (switches.small_row, [(12, ()), (), ()], "count", 8),
            (ears_covered.takes_ear, [PATH, 0, 1], "tie", (1, 2)),
            (ears_covered.takes_ear, [(3, ()), 0, 1], "tie", ()),
            (switches.switch_at, [PATH, ((0, 1),), (0, 1)], "row", (2, 3)),
            (webs.web_told, [7], "index", 0),
            (heaviest.pricing, [NINE, (1,) * 9], "count", 8),
            (joining.joined_webs, [DENSE, (1, ())], "count", 12),
            (joining.from_drawn, [PATH, (0, 1, 2), ()], "place", 1),
            (paper_texts.paper_told, ["d:ab;;"], "count", 2),
            (paper_texts.paper_told, ["d:ab;ab,ac;"], "index", 8),
            (losses.least_loss, [(12, ())], "count", 8),
            (losses.unextended, [STAR, 2], "lot", (0,)),
            (losses.unfull_without_two, [STAR], "lot", (0,)),
            (losses.unextended, [DENSE, 6], "count", 8),
            (losses.unfull_without_two, [DENSE], "count", 8),
        ]:
            with self.assertRaises(errors.PairError) as caught:
                function(*arguments)
            self.assertEqual(getattr(caught.exception, field), value)


def spoil(value):
    """Changes every list in the value."""
    if isinstance(value, list):
        value.append("spoilt")
        value.insert(0, None)
    if isinstance(value, (list, tuple)):
        for part in value:
            spoil(part)


class Results(unittest.TestCase):
    def test_nothing_passed_is_changed(self):
        for function, _, arguments in functions.calls():
            before = copy.deepcopy(arguments)
            function(*arguments)
            self.assertEqual(repr(arguments), repr(before))

    def test_lists_are_new(self):
        for function, _, arguments in functions.calls():
            told = function(*arguments)
            before = repr(told)
            spoil(told)
            self.assertEqual(repr(function(*arguments)), before, function)

    def test_equal_arguments_equal_results(self):
        for function, _, arguments in functions.calls():
            told = repr(function(*arguments))
            self.assertEqual(repr(function(*copy.deepcopy(arguments))), told)


if __name__ == "__main__":
    unittest.main()
