import unittest

from tests import plain
from everypairing.errors import InvalidWalk
from everypairing.game import guide, mover_wins, winning_moves, winning_starts
from everypairing.lots import lots


def going_on(web, walk):
    """The places by which the walk can be lengthened."""
    return [x for x in range(web[0])
            if x not in walk and tuple(sorted((x, walk[-1]))) in web[1]]


def wins(web, walk, known):
    """Whether the mover can win, by a search of the whole game."""
    key = (frozenset(walk), walk[-1])
    if key not in known:
        known[key] = any(not wins(web, walk + (x,), known) for x in going_on(web, walk))
    return known[key]


def walks(web, most=400):
    """Walks of the web, short ones first."""
    found = [(x,) for x in range(web[0])]
    for walk in found:
        if len(found) > most:
            break
        found += [walk + (x,) for x in going_on(web, walk)]
    return found


def left_web(web, walk):
    """The places outside of the walk and its last one, and the web of these."""
    places = tuple(x for x in range(web[0]) if x not in walk[:-1])
    return places, plain.inner(web, places)


def webs():
    return plain.small_webs(many=15) + plain.chance_webs(8, 4)


class Game(unittest.TestCase):
    def test_against_a_search_of_the_whole_game(self):
        for web in webs():
            known = {}
            for walk in walks(web, 150):
                self.assertIs(mover_wins(web, walk), wins(web, walk, known))
                good = [x for x in going_on(web, walk) if not wins(web, walk + (x,), known)]
                self.assertEqual(winning_moves(web, walk), good)
            starts = [x for x in range(web[0]) if not wins(web, (x,), known)]
            self.assertEqual(winning_starts(web), starts)
            self.assertIs(type(winning_starts(web)), list)

    def test_the_guide(self):
        for web in webs():
            for walk in walks(web, 60):
                self.check_guide(web, walk)

    def check_guide(self, web, walk):
        told = guide(web, walk)
        places, left = left_web(web, walk)
        self.assertTrue(all(x in places and y in places for x, y in told))
        within = tuple((places.index(x), places.index(y)) for x, y in told)
        self.assertIn(within, plain.greatest(left))
        self.assertEqual(plain.mate(told, walk[-1]) is not None, mover_wins(web, walk))

    def win_by_guide(self, web, walk, leads):
        """Whether who goes along the guide wins; leads: whether it is the mover.

        All moves of the other one are tried.
        """
        if leads:
            move = plain.mate(guide(web, walk), walk[-1])
            if move is None:
                return False
            self.assertIn(move, going_on(web, walk))
            return self.win_by_guide(web, walk + (move,), False)
        return all(self.win_by_guide(web, walk + (x,), True) for x in going_on(web, walk))

    def follow(self, web, walk, pairing):
        """Whether the other one wins along the one pairing told ahead (M3)."""
        for x in going_on(web, walk):
            mate = plain.mate(pairing, x)
            if mate is None or mate in walk + (x,):
                return False
            if not self.follow(web, walk + (x, mate), pairing):
                return False
        return True

    def test_winning_by_the_guide(self):
        for web in plain.small_webs(many=6) + plain.chance_webs(8, 2):
            for walk in walks(web, 25):
                leads = mover_wins(web, walk)
                self.assertTrue(self.win_by_guide(web, walk, leads))
                told = guide(web, walk)
                if leads:
                    move = plain.mate(told, walk[-1])
                    self.assertTrue(self.follow(web, walk + (move,), told))
                else:
                    self.assertTrue(self.follow(web, walk, told))

    def test_facts_on_large_webs(self):
        for web in plain.large_webs():
            self.assertEqual(winning_starts(web), list(lots(web)[0]))
            for walk in walks(web, 40):
                places, left = left_web(web, walk)
                last = places.index(walk[-1])
                # M1
                self.assertEqual(mover_wins(web, walk), last not in lots(left)[0])
                moves = winning_moves(web, walk)
                self.assertEqual(bool(moves), mover_wins(web, walk))
                for x in going_on(web, walk):
                    self.assertEqual(x in moves, not mover_wins(web, walk + (x,)))
                # M2
                left_alone = ()
                if len(places) > 1:
                    others = tuple(x for x in places if x != walk[-1])
                    left_alone = [others[x] for x in lots(plain.inner(web, others))[0]]
                self.assertEqual(moves, [x for x in going_on(web, walk) if x in left_alone])
                # M3
                mate = plain.mate(guide(web, walk), walk[-1])
                self.assertEqual(mate is not None, mover_wins(web, walk))
                if mate is not None:
                    self.assertIn(mate, moves)

    def test_the_whole_web_as_a_walk(self):
        for n in (1, 2, 7, 12):
            walk = tuple(range(n))
            self.assertIs(mover_wins(plain.line(n), walk), False)
            self.assertEqual(winning_moves(plain.line(n), walk), [])
            self.assertEqual(guide(plain.line(n), walk), ())
        self.assertEqual(guide(plain.line(4), (0,)), ((0, 1), (2, 3)))
        self.assertEqual(guide(plain.line(4), (1, 2)), ((2, 3),))
        self.assertEqual(guide(plain.line(4), (2, 1)), ((0, 1),))
        self.assertEqual(guide(plain.line(4), (0, 1)), ((2, 3),))

    def test_walks_that_are_none(self):
        path = plain.line(4)
        wrong = [(0, 1, 0), (0, 0), (0, 2), (1, 3), (), [0, 1], [0], (False, 1), (True,), (0, True),
                 (4,), (-1,), (0, 1, 2, 3, 4), (0, None), ("0",), "ab", None, 0, ((0, 1),), ([0],)]
        for function in (mover_wins, winning_moves, guide):
            for walk in wrong + [(0,) * 7000]:
                with self.assertRaises(InvalidWalk):
                    function(path, walk)
            function(path, (3, 2, 1))


if __name__ == "__main__":
    unittest.main()
