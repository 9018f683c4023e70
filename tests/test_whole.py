"""What the document promises over the whole program: equal calls, equal results; free ones small."""

import os
import random
import subprocess
import sys
import unittest

from tests import functions, plain
from tests.test_live import call, drawn_deed, fields, outcome
from everypairing import barriers, counts, ears_covered, ears_odd, errors, greatest, heaviest, joining
from everypairing import game, losses, lots, shares_of_ties, sides, switches
from everypairing.console import Console
from everypairing.live import Live, PinnedLive, replay

ROOT = os.path.dirname(os.path.dirname(os.path.abspath(__file__)))
# One web of 12 places with a full pairing, for free results of every kind.
WEBS = [functions.FIVE, functions.PATH, plain.ring(12), plain.all_tied(12), plain.untied(12), plain.line(11),
        plain.stars(12), plain.PRISM, plain.all_tied(8)]
FREE = (
    greatest.greatest_pairing, greatest.longer_row, greatest.completed, greatest.spare_lot,
    lots.leaving, shares_of_ties.greatest_with, shares_of_ties.greatest_avoiding, ears_odd.odd_ears,
    ears_odd.ears_along, ears_covered.covered_ears, ears_covered.covered_along, ears_covered.lone_row,
    switches.switch_row, switches.switch_at, switches.switch_to_alone, switches.small_row,
    sides.least_cover, sides.tie_parting, counts.even_lot, heaviest.heaviest, heaviest.pricing,
    game.guide, losses.greatest_holding, losses.greatest_leaving, losses.best_leaving,
    losses.least_loss, losses.unfull_without_two, joining.from_drawn, joining.from_kernel,
)


def told(function, arguments):
    try:
        return function.__name__ + " " + repr(function(*arguments))
    except errors.PairError as error:
        return function.__name__ + " " + type(error).__name__ + " " + repr(vars(error))


def arguments_for(web, names, fitting):
    """Arguments for another web; those that fit no longer lead to an error, which is told, too."""
    pairing = greatest.greatest_pairing(web)
    fresh = {"web": web, "pairing": pairing, "other_pairing": pairing, "tie": web[1][-1] if web[1] else (0, 1),
             "ties": pairing, "walk": (0,), "weights": tuple(range(len(web[1]))),
             "worths": tuple(range(web[0])), "new_pairing": ()}
    return [fresh.get(name, value) for name, value in zip(names, fitting)]


def all_calls():
    found = []
    for function, names, fitting in functions.calls():
        found.append((function, fitting))
        if "web" in names:
            found += [(function, arguments_for(web, names, fitting)) for web in WEBS]
    return found


def live_deeds(kind, web, seed):
    source = random.Random(seed)
    live = kind(web)
    while len(live.deeds) < 25:
        outcome(call, live, drawn_deed(live, source, 11))
    return live


def everything_told():
    """All results, a line each."""
    lines = [told(function, arguments) for function, arguments in all_calls()]
    console = Console()
    for seed, web in enumerate([functions.FIVE, plain.PRISM, plain.chance_webs(8, 1)[0]]):
        for kind in (Live, PinnedLive):
            lines.append(fields(live_deeds(kind, web, seed)))
        text = "abcdefghijkl"
        words = ",".join(text[x] + text[y] for x, y in web[1])
        lines.append(console.execute(f"run web a {text[web[0] - 1]}:{words}; come 0 1; leave 2; paper; lots; row 1"))
    return lines


def parts(value):
    if isinstance(value, (tuple, list)):
        return 1 + sum(parts(part) for part in value)
    return 1


class Whole(unittest.TestCase):
    def test_equal_results_in_another_process(self):
        here = "\n".join(everything_told())
        for seed in ("0", "7"):
            done = subprocess.run(
                [sys.executable, "-m", "tests.test_whole", "tell"], cwd=ROOT, check=True, text=True,
                env=dict(os.environ, PYTHONHASHSEED=seed), stdout=subprocess.PIPE)
            self.assertEqual(done.stdout, here + "\n")

    def test_earlier_calls_change_nothing(self):
        source = random.Random(1)
        calls = all_calls()
        first = [told(function, arguments) for function, arguments in calls]
        order = list(range(len(calls)))
        for _ in range(2):
            source.shuffle(order)
            for at in order:
                self.assertEqual(told(*calls[at]), first[at])

    def test_live_webs_tell_nothing_of_one_another(self):
        lives = [live_deeds(kind, plain.PRISM, seed) for kind in (Live, PinnedLive) for seed in (3, 4)]
        shown = [fields(live) for live in lives]
        live_deeds(PinnedLive, plain.PRISM, 5).undo()
        for live, before in zip(lives, shown):
            self.assertEqual(fields(live), before)
            again = replay(live.start, live.deeds, pinned=type(live) is PinnedLive)
            self.assertEqual(fields(again), before)

    def test_free_results_are_small(self):
        free = {function.__name__ for function in FREE}
        seen = set()
        for function, arguments in all_calls():
            if function.__name__ in free:
                try:
                    value = function(*arguments)
                except errors.PairError:
                    continue
                seen.add(function.__name__)
                self.assertLessEqual(parts(value), 3000)
        self.assertEqual(seen, free)
        self.assertLessEqual(barriers.barrier_count(plain.all_tied(12)), 3000)


if __name__ == "__main__":
    if sys.argv[1:] == ["tell"]:
        print("\n".join(everything_told()))
    else:
        unittest.main()
