import time
import unittest

from tests import functions, plain
from everypairing import ears_odd, errors, greatest

# "Within some seconds" on a machine that may run other tests at the same time.
SECONDS = 5


def webs_of(n):
    half = [(n, tuple(tie for at, tie in enumerate(plain.possible_ties(n)) if at % 7 in some))
            for some in ((0, 2, 4, 5), (1, 3, 6), (0, 1, 2))]
    return [plain.all_tied(n), plain.untied(n), plain.ring(n), plain.line(n), plain.stars(n)] + half


class Speed(unittest.TestCase):
    def arguments(self, web, names):
        """Arguments that fit each web of 11 or 12 places, or whose error is told last."""
        tie = web[1][len(web[1]) // 2] if web[1] else (0, 1)
        pairing = greatest.greatest_pairing(web)
        near = ears_odd.is_near_full(web)
        fitting = {
            "web": web, "other_web": web, "value": [(0, 1)] * 30, "pairing": pairing,
            "place": 3, "other_place": 7, "lot": (0, 2, 5), "tie": tie, "ties": pairing[:2],
            "ears": ears_odd.odd_ears(web, 3) if near else [], "goal": 5, "text": "l:ab,kl",
            "row": tuple(range(web[0]))[::-1],
        }
        return [fitting[name] for name in names]

    def test_large_webs_are_answered_soon(self):
        for web in webs_of(12) + webs_of(11):
            for function, names, _ in functions.calls():
                arguments = self.arguments(web, names)
                start = time.monotonic()
                try:
                    function(*arguments)
                except errors.PairError as error:
                    bounded = function.__name__ in ("barriers", "beside")
                    self.assertEqual(isinstance(error, errors.TooMany), bounded)
                self.assertLess(time.monotonic() - start, SECONDS, (function.__name__, web))


if __name__ == "__main__":
    unittest.main()
