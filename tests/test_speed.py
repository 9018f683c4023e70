import random
import time
import unittest
from fractions import Fraction

from tests import functions, plain
from tests.test_live import call, drawn_deed, outcome
from everypairing import barriers, ears_odd, errors, greatest, lots, shares_of_ties, switches
from everypairing.commands import command_of
from everypairing.console import Console
from everypairing.live import Live, PinnedLive, replay
from everypairing.webs import web_text

# "Within some seconds" on a machine that may run other tests at the same time.
SECONDS = 5
# What raises TooMany for webs of 11 and 12 places, and what may.
BOUNDED = ("barriers", "beside", "small_classes", "small_row", "pricing", "least_loss",
           "joined_webs", "put_in")
SOMETIMES_BOUNDED = ("mixture", "chance_paper", "near_chance", "unextended", "unfull_without_two",
                     "stretched", "to_stretched", "doubled", "to_doubled")


def webs_of(n):
    half = [(n, tuple(tie for at, tie in enumerate(plain.possible_ties(n)) if at % 7 in some))
            for some in ((0, 2, 4, 5), (1, 3, 6), (0, 1, 2))]
    return [plain.all_tied(n), plain.untied(n), plain.ring(n), plain.line(n), plain.stars(n)] + half


def other_greatest(web):
    """A greatest pairing, another one if there is one."""
    for tie in greatest.greatest_pairing(web):
        other = shares_of_ties.greatest_avoiding(web, tie)
        if other is not None:
            return other
    return greatest.greatest_pairing(web)


def any_switch(web, pairing):
    parts = switches.difference(web, pairing, other_greatest(web))
    return parts[0] if parts else ()


def mean_shares(web):
    """Shares by a few full pairings, with bottoms below 1,000."""
    found = [greatest.greatest_pairing(web), other_greatest(web)]
    for tie in web[1]:
        pairing = shares_of_ties.greatest_with(web, tie)
        if pairing is not None and len(found) < 30:
            found.append(pairing)
    told = [Fraction(sum(tie in pairing for pairing in found), len(found)) for tie in web[1]]
    return tuple((share.numerator, share.denominator) for share in told)


class Speed(unittest.TestCase):
    def arguments(self, web, names):
        """Arguments that fit each web of 11 or 12 places, or whose error is told last."""
        tie = web[1][len(web[1]) // 2] if web[1] else (0, 1)
        pairing = greatest.greatest_pairing(web)
        near = ears_odd.is_near_full(web)
        fitting = {
            "web": web, "other_web": web, "value": [(0, 1)] * 30, "pairing": pairing,
            "place": 3, "other_place": 7, "lot": (0, 2, 5), "tie": tie, "ties": pairing[:2],
            "ears": ears_odd.odd_ears(web, 3) if near else [], "goal": 5, "text": "l:ab,kl",
            "row": tuple(range(web[0]))[::-1], "other_pairing": other_greatest(web), "number": 3,
            "switch": any_switch(web, pairing), "size": 4, "sized": True, "worth": (999, 1000),
            "shares": mean_shares(web) if greatest.spare(web) == 0 else (),
            "weights": tuple(999983 * at * at for at in range(len(web[1]))),
            "worths": tuple(999983 * at * at for at in range(web[0])), "count": 3,
            "walk": (web[1][0] if web[1] else (0,)), "new_pairing": (),
        }
        for name in ("weights", "worths"):
            fitting[name] = tuple(number - number // 1000001 * 1000001 for number in fitting[name])
        return [fitting[name] for name in names]

    def test_large_webs_are_answered_soon(self):
        for web in webs_of(12) + webs_of(11):
            for function, names, _ in functions.calls():
                arguments = self.arguments(web, names)
                start = time.monotonic()
                try:
                    function(*arguments)
                except errors.PairError as error:
                    name = function.__name__
                    if isinstance(error, errors.TooMany):
                        self.assertIn(name, BOUNDED + SOMETIMES_BOUNDED)
                    else:
                        self.assertNotIn(name, BOUNDED)
                self.assertLess(time.monotonic() - start, SECONDS, (function.__name__, web))


class LiveSpeed(unittest.TestCase):
    """Live webs of 11 and 12 places with 60 deeds, and a console with 8 of them."""

    def timed(self, function, *arguments):
        start = time.monotonic()
        told = function(*arguments)
        self.assertLess(time.monotonic() - start, SECONDS, function)
        return told

    def grown_live(self, kind, web, seed):
        source = random.Random(seed)
        live = kind(web)
        while len(live.deeds) < 60:
            deed = drawn_deed(live, source, 13)
            self.timed(outcome, live.would, deed)
            self.timed(outcome, call, live, deed)
        return live

    def ask(self, live):
        self.timed(live.lots)
        self.timed(live.sizes)
        for mark in live.marks:
            self.timed(live.may_leave, mark)
            for other in live.marks:
                if other != mark:
                    self.timed(live.may_pair, mark, other)
        told = self.timed(replay, live.start, live.deeds) if type(live) is Live else live.twin()
        self.assertTrue(self.timed(lambda: told == live))

    def test_live_webs(self):
        for seed, web in enumerate(webs_of(12) + webs_of(11)):
            live = self.grown_live((Live, PinnedLive)[seed % 2], web, seed)
            self.ask(live)
            for _ in range(12):
                self.timed(live.begin)
            self.timed(live.drop)

    def test_the_console(self):
        console = Console()
        for at, web in enumerate(webs_of(12)):
            live = self.grown_live(Live, web, at)
            console.execute(f"web {'abcdefgh'[at]} {web_text(web)}")
            console.execute("run " + "; ".join([command_of(deed) for deed in live.deeds]))
        questions = "show marks pairing alone lots sizes pins where paper journal same twin".split()
        for word in questions:
            command = word + (" a" if word in ("same", "twin") else "")
            self.timed(console.execute, "run " + "; ".join([command] * 64))
        self.timed(outcome, console.execute, "run " + "; ".join(["begin"] * 63 + ["use zzz"]))


NONE, RING, ALL = plain.untied(12), plain.ring(12), plain.all_tied(12)
TWO = (12, tuple((x, y) for x in range(6) for y in range(6, 12)))
TWOS = plain.possible_ties(12)


def each(function, web, parts):
    return lambda: [function(web, part) for part in parts]


def each_two(web):
    return lambda: [shares_of_ties.kind_between(web, x, y)
                    for x in range(12) for y in range(12) if x != y]


def over_and_with(web):
    return lambda: [(barriers.barrier_over(web, tie), shares_of_ties.greatest_with(web, tie))
                    for tie in web[1]]


def lengthen_on():
    pairing = ()
    row = greatest.longer_row(ALL, pairing)
    while row is not None:
        pairing = greatest.lengthened(ALL, pairing, row)
        row = greatest.longer_row(ALL, pairing)


class Rows(unittest.TestCase):
    """Rows of calls for one web, so that rows for many webs can be made."""

    def check(self, milliseconds, call):
        best = None
        for _ in range(7):
            start = time.perf_counter()
            call()
            spent = time.perf_counter() - start
            best = spent if best is None else min(best, spent)
            if best * 1000 < milliseconds:
                return
        self.assertLess(best * 1000, milliseconds)

    def test_calls_that_belong_together(self):
        self.check(210, over_and_with(ALL))
        self.check(110, over_and_with(TWO))
        self.check(170, each(barriers.barrier_over, ALL, TWOS))
        self.check(320, each(barriers.barrier_over, NONE, TWOS))
        self.check(130, each_two(ALL))
        self.check(87, each_two(TWO))
        self.check(35, each(barriers.is_barrier, ALL, TWOS))
        self.check(35, each(barriers.is_dear, ALL, TWOS))
        self.check(6.7, each(lots.leaving, ALL, range(12)))
        self.check(4.2, lengthen_on)

    def test_single_calls(self):
        for web, wanted in ((NONE, 4.2), (RING, 2.8)):
            for function in (barriers.greatest_barriers, barriers.barrier_core, ears_odd.hindrance,
                             barriers.barrier_count):
                self.check(wanted, lambda: function(web))
            for function in (barriers.barrier_over, barriers.barriers_over):
                self.check(wanted, lambda: function(web, (0,)))
        for function, wanted in [
            (barriers.greatest_barriers, 2.6), (barriers.barrier_core, 2.6), (ears_odd.lumps, 2.1),
            (barriers.place_classes, 1.5), (shares_of_ties.is_covered, 1.5),
            (greatest.greatest_size, 1), (greatest.spare, 1), (greatest.greatest_pairing, 1),
            (greatest.spare_lot, 1), (shares_of_ties.tie_shares, 3.6),
        ]:
            self.check(wanted, lambda: function(ALL))
        full = greatest.greatest_pairing(ALL)
        self.check(3.8, lambda: greatest.completed(ALL, ()))
        self.check(1.6, lambda: lots.held(ALL, full))
        self.check(1, lambda: greatest.longer_row(ALL, ()))


if __name__ == "__main__":
    unittest.main()
