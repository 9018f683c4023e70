import random
import unittest

from tests import plain
from tests.model import Model, pair_of
from everypairing.errors import InvalidCount, InvalidDeeds, InvalidWeb, NoSpan, NothingToUndo
from everypairing.errors import PairError, Refused, TooMany
from everypairing.greatest import greatest_pairing, greatest_size, is_greatest
from everypairing.live import Live, PinnedLive, replay
from everypairing.lots import lots

FIELDS = ("web", "start", "marks", "next_mark", "pairing", "deeds", "depth")


def fields(live):
    told = [getattr(live, name) for name in FIELDS] + [live.sizes(), live.lots()]
    told += [live.row(at) for at in range(len(live.deeds) + 1)]
    return repr(told + [live.pinned() if isinstance(live, PinnedLive) else None])


def call(live, deed):
    return getattr(live, deed[0])(*deed[1:])


def outcome(function, *arguments):
    """The tuple (error's name, None) or (None, what is returned)."""
    try:
        return None, function(*arguments)
    except PairError as error:
        return type(error).__name__, None


def any_mark(live, source):
    return source.choice(live.marks)


def any_pair(live, source):
    """Two marks, tied more often than not."""
    if live.web[1] and source.random() < 0.7:
        x, y = source.choice(live.web[1])
        pair = [live.marks[x], live.marks[y]]
    else:
        pair = [any_mark(live, source), any_mark(live, source)]
    source.shuffle(pair)
    return tuple(pair)


def some_marks(marks, source, part=0.4):
    return tuple(mark for mark in marks if source.random() < part)


def neighbours(live, mark):
    place = live.marks.index(mark)
    return [live.marks[x] for tie in live.web[1] if place in tie for x in tie if x != place]


def drawn_deed(live, source, most):
    """A deed that is likely to be done; webs stay at about so many places."""
    names = ["leave", "tie", "untie", "choose", "release", "tie", "untie"]
    if len(live.marks) < most:
        names += ["come", "come", "stretch", "double", "come"]
    if len(live.marks) > 4:
        names += ["leave"]
    if isinstance(live, PinnedLive):
        names += ["pin", "pin", "pin", "unpin"]
    name = source.choice(names)
    if name == "come":
        return (name, some_marks(live.marks, source))
    if name in ("leave", "release"):
        return (name, any_mark(live, source))
    if name == "double":
        mark = any_mark(live, source)
        return (name, mark, some_marks(sorted(neighbours(live, mark)), source, 0.5))
    if name == "pin" and live.pairing:
        return (name,) + source.choice(live.pairing)
    if name == "unpin" and live.pinned():
        return (name,) + source.choice(live.pinned())[::-1]
    return (name,) + any_pair(live, source)


WRONG_MARKS = [None, True, False, "0", (), [0], -1, 99, 10 ** 80, (0,)]
WRONG_LOTS = [None, True, 0, "0", [0], (0, 0), (1, 0), (99,), (-1,), (False,), ("0",), (None,),
              ((0,),), 10 ** 80]


class Lives(unittest.TestCase):
    def assert_shows(self, live, model):
        web = model.web()
        self.assertEqual(live.web, web)
        self.assertEqual(live.marks, tuple(model.marks))
        self.assertEqual(live.next_mark, model.next)
        self.assertEqual(live.pairing, tuple(sorted(live.pairing)))
        self.assertEqual(set(live.pairing), model.kept)
        if isinstance(live, PinnedLive):
            self.assertEqual(live.pinned(), model.pins)

    def assert_tells(self, live, model):
        """The questions, against all greatest pairings."""
        found = model.greatest()
        for mark in model.marks:
            self.assertIs(live.may_leave(mark), any(mark in model.alone(one) for one in found))
            for other in model.marks:
                if other != mark:
                    has = any(pair_of(mark, other) in one for one in found)
                    self.assertIs(live.may_pair(mark, other), has)
        told = plain.lots(model.web())
        self.assertEqual(live.lots(), tuple(tuple(model.marks[x] for x in lot) for lot in told))

    def step(self, live, model, deed):
        """Do the deed; returns the model behind it, or the one ahead if it has an error."""
        before = fields(live)
        wrong, behind, told, wanted = model.behind(deed)
        would = outcome(live.would, deed)
        self.assertEqual(fields(live), before)
        done = outcome(call, live, deed)
        self.assertEqual(done[0], wrong, (deed, live.web, model.kept, model.pins))
        self.assertEqual(would[0], wrong)
        if wrong:
            self.assertEqual(fields(live), before)
            return model
        self.assertEqual(repr(done[1]), repr(told))
        row = live.row(len(live.deeds) - 1)
        kept = behind.exchange(row)
        self.assertIn(kept, wanted)
        self.assertEqual(row == (), behind.kept in wanted)
        self.assertEqual(would[1][0], len(kept))
        self.assertIn(behind.exchange(would[1][1]), wanted)
        self.assertEqual(would[1][1] == (), row == ())
        behind.kept = kept
        self.assert_shows(live, behind)
        self.assertEqual(live.sizes()[-1], len(live.pairing))
        self.assertEqual(live.deeds[-1], deed)
        return behind

    def run_of(self, kind, web, seed, many, most):
        source = random.Random(seed)
        live = kind(web)
        model = Model(web, live.pairing)
        self.assert_shows(live, model)
        for at in range(many):
            model = self.step(live, model, drawn_deed(live, source, most))
            if at % 7 == 0:
                self.assert_tells(live, model)
        return live

    def check_facts(self, live):
        sizes = live.sizes()
        self.assertEqual(len(sizes), len(live.deeds) + 1)
        self.assertTrue(all(abs(one - two) <= 1 for one, two in zip(sizes, sizes[1:])))
        told = replay(live.start, live.deeds, pinned=isinstance(live, PinnedLive))
        self.assertTrue(told == live)
        told.begin()
        for _ in range(live.depth - 1):
            told.begin()
        if live.depth == 0:
            told.keep()
        self.assertEqual(fields(told), fields(live))

    def test_drawn_sequences(self):
        webs = plain.small_webs(many=3)
        for seed, web in enumerate(webs[::2]):
            for kind in (Live, PinnedLive):
                self.check_facts(self.run_of(kind, web, seed, 16, 7))

    def test_long_sequences(self):
        for seed in range(4):
            for kind in (Live, PinnedLive):
                web = plain.chance_webs(6, 1, seed)[0]
                self.check_facts(self.run_of(kind, web, seed, 60, 8))

    def test_large_live_webs(self):
        """Up to 12 places: the kept pairing is greatest, the answers are those of the web."""
        for seed, web in enumerate(plain.large_webs(many=1)):
            source = random.Random(seed)
            live = (Live, PinnedLive)[seed % 2](web)
            while len(live.deeds) < 50:
                outcome(call, live, drawn_deed(live, source, 13))
                at = {mark: place for place, mark in enumerate(live.marks)}
                pairing = tuple((at[x], at[y]) for x, y in live.pairing)
                self.assertTrue(is_greatest(live.web, pairing))
                told = lots(live.web)
                self.assertEqual(live.lots(), tuple(tuple(live.marks[x] for x in lot) for lot in told))
                if isinstance(live, PinnedLive):
                    self.assertTrue(set(live.pinned()) <= set(live.pairing))
            self.check_facts(live)

    def test_what_sizes_do(self):
        # P2
        seen = {}
        for seed, web in enumerate(plain.chance_webs(6, 30) + plain.chance_webs(5, 20)):
            source = random.Random(seed)
            live = Live(web)
            for _ in range(12):
                deed = drawn_deed(live, source, 8)
                model = Model((0, ()), ())
                model.marks, model.next = list(live.marks), live.next_mark
                model.ties = {(live.marks[x], live.marks[y]) for x, y in live.web[1]}
                found = model.greatest()
                opened = live.lots()[0]
                more = self.change(deed, model, found, opened)
                if outcome(call, live, deed)[0] is None:
                    sizes = live.sizes()
                    self.assertEqual(sizes[-1] - sizes[-2], more, deed)
                    seen[deed[0], more] = True
        for key in [("tie", 1), ("tie", 0), ("untie", -1), ("untie", 0), ("leave", -1), ("leave", 0),
                    ("come", 1), ("come", 0), ("stretch", 1), ("double", 1), ("choose", 0), ("release", 0)]:
            self.assertIn(key, seen)

    def change(self, deed, model, found, opened):
        name, values = deed[0], deed[1:]
        if name == "tie":
            return int(any(set(values) <= set(model.alone(one)) for one in found))
        if name == "untie":
            return -int(all(pair_of(*values) in one for one in found))
        if name == "leave":
            return -int(values[0] not in opened)
        if name == "come":
            return int(any(mark in opened for mark in values[0]))
        return 1 if name in ("stretch", "double") else 0

    def test_lots_behind_deeds(self):
        # P3
        for web in plain.small_webs(many=20):
            opened, holding, closed = lots(web)
            for mark in holding:
                live = Live(web)
                live.leave(mark)
                others = tuple(other for other in holding if other != mark)
                self.assertEqual(live.lots(), (opened, others, closed))
            for x, y in plain.possible_ties(web[0]):
                if (x, y) not in web[1] and (
                        x in holding or y in holding or (x in closed and y in closed)):
                    live = Live(web)
                    live.tie(y, x)
                    self.assertEqual(live.lots(), (opened, holding, closed))


class Fields(unittest.TestCase):
    def test_a_new_one(self):
        for kind in (Live, PinnedLive):
            for web in plain.small_webs(many=5) + plain.large_webs():
                live = kind(web)
                self.assertEqual((live.web, live.start), (web, web))
                self.assertEqual(live.marks, tuple(range(web[0])))
                self.assertEqual((live.next_mark, live.deeds, live.depth), (web[0], [], 0))
                self.assertTrue(is_greatest(web, live.pairing))
                self.assertEqual(live.sizes(), [greatest_size(web)])
                self.assertIsNone(live.row(0))
            self.assertEqual(kind(plain.line(4)).pairing, greatest_pairing(plain.line(4)))
            with self.assertRaises(InvalidWeb):
                kind((13, ()))
            with self.assertRaises(InvalidWeb):
                kind(None)
        self.assertTrue(issubclass(PinnedLive, Live))
        self.assertEqual(PinnedLive(plain.line(2)).pinned(), [])

    def test_the_methods_stand_in_their_classes(self):
        for name in """come leave tie untie stretch double choose release row sizes lots may_pair
                       may_leave would undo begin keep drop twin __init__ __eq__""".split():
            self.assertIn(name, vars(Live))
        for name in ("pin", "unpin", "pinned"):
            self.assertIn(name, vars(PinnedLive))
            self.assertFalse(hasattr(Live(plain.line(2)), name))

    def test_arguments_by_name(self):
        live = PinnedLive(web=plain.line(4))
        self.assertEqual(live.come(marks=(0, 3)), 4)
        self.assertIsNone(live.untie(other_mark=4, mark=0))
        self.assertIsNone(live.tie(mark=0, other_mark=4))
        self.assertEqual(live.stretch(mark=1, other_mark=0), (5, 6))
        self.assertEqual(live.double(mark=2, marks=(3,)), (7, 8))
        self.assertIsNone(live.leave(mark=8))
        self.assertIsNone(live.choose(mark=0, other_mark=4))
        self.assertEqual(live.come(()), 9)
        self.assertIsNone(live.release(mark=9))
        x, y = live.pairing[0]
        self.assertIsNone(live.pin(mark=x, other_mark=y))
        self.assertIsNone(live.unpin(mark=y, other_mark=x))
        self.assertIsNone(live.row(number=99))
        self.assertIs(live.may_pair(mark=0, other_mark=6), False)
        self.assertIs(live.may_leave(mark=9), True)
        self.assertEqual(live.would(deed=("come", ())), (len(live.pairing), ()))
        told = replay(web=live.start, deeds=live.deeds, pinned=True)
        self.assertTrue(told == live)

    def test_marks_are_kept_and_come_again_only_by_undo(self):
        live = Live(plain.line(3))
        self.assertEqual(live.come(()), 3)
        live.leave(1)
        self.assertEqual((live.marks, live.next_mark), ((0, 2, 3), 4))
        self.assertEqual(live.come((0, 3)), 4)
        live.leave(4)
        self.assertEqual(live.come((0,)), 5)
        self.assertEqual(live.stretch(5, 0), (6, 7))
        self.assertEqual(live.web, (6, ((0, 4), (3, 5), (4, 5))))
        self.assertEqual(live.marks, (0, 2, 3, 5, 6, 7))
        live.undo()
        self.assertEqual(live.next_mark, 6)
        self.assertEqual(live.double(0, (5,)), (6, 7))
        self.assertEqual(live.web[1], ((0, 5), (3, 4), (4, 5)))

    def test_the_lesser_mark_is_the_lesser_end(self):
        for pair in ((0, 1), (1, 0)):
            live = Live(plain.line(2))
            self.assertEqual(live.stretch(*pair), (2, 3))
            self.assertEqual(live.web, (4, ((0, 2), (1, 3), (2, 3))))
            self.assertEqual(live.deeds, [("stretch",) + pair])

    def test_told_lists_change_nothing(self):
        live = PinnedLive(plain.line(4))
        live.pin(0, 1)
        live.come((3,))
        before = fields(live)
        for told in (live.deeds, live.sizes(), live.pinned()):
            told.append("spoilt")
            told.insert(0, None)
            self.assertEqual(fields(live), before)
        deeds = live.deeds
        other = replay(live.start, deeds, pinned=True)
        deeds.clear()
        self.assertEqual(fields(other), before)
        self.assertTrue(other == live)

    def test_rows_of_one_web(self):
        live = Live(plain.ring(4))
        kept = live.pairing
        x, y = [pair for pair in ((0, 1), (1, 2)) if pair not in kept][0]
        live.choose(y, x)
        row = live.row(0)
        self.assertEqual((len(row), row[0]), (5, row[-1]))
        self.assertEqual(set(live.pairing) & set(kept), set())
        live.choose(x, y)
        self.assertEqual(live.row(1), ())
        for number in (2, 3, 10 ** 80):
            self.assertIsNone(live.row(number))
        for number in (-1, True, None, "0", (), 1.0):
            with self.assertRaises(InvalidCount):
                live.row(number)
        self.assertEqual(live.sizes(), [2, 2, 2])

    def test_release(self):
        live = Live(plain.stars(4))
        alone = [mark for mark in live.marks if not any(mark in pair for pair in live.pairing)]
        live.release(alone[0])
        self.assertEqual(live.row(0), ())
        mate = [mark for mark in (1, 2, 3) if mark not in alone][0]
        live.release(mate)
        self.assertIn(live.row(1), [(one, 0, mate) for one in alone] + [(mate, 0, one) for one in alone])
        with self.assertRaises(Refused):
            live.release(0)
        self.assertEqual(live.deeds, [("release", alone[0]), ("release", mate)])


class Errors(unittest.TestCase):
    def assert_raises(self, name, function, *arguments):
        self.assertEqual(outcome(function, *arguments)[0], name, arguments)

    def deeds_with(self, live, name, wrong):
        """The same deed done, tried by would and by replay: the error of each."""
        deed = (name,) + wrong
        before = fields(live)
        told = outcome(call, live, deed)[0]
        self.assertEqual(outcome(live.would, deed)[0], told)
        with self.assertRaises(InvalidDeeds) as caught:
            replay(live.start, live.deeds + [deed], pinned=isinstance(live, PinnedLive))
        self.assertEqual(caught.exception.index, len(live.deeds))
        self.assertEqual(fields(live), before)
        return told

    def test_wrong_marks(self):
        for kind in (Live, PinnedLive):
            live = kind(plain.line(4))
            live.leave(3)
            for mark in WRONG_MARKS + [3]:
                for name in ("leave", "release"):
                    self.assertEqual(self.deeds_with(live, name, (mark,)), "InvalidPlace")
                for name in ("tie", "untie", "stretch", "choose", "pin", "unpin"):
                    if name in ("pin", "unpin") and kind is Live:
                        continue
                    for values in ((mark, 1), (1, mark), (mark, mark), (mark, None), (1, 1)):
                        self.assertEqual(self.deeds_with(live, name, values), "InvalidPlace")
                for marks in [(0,), (), (99,), None]:
                    self.assertEqual(self.deeds_with(live, "double", (mark, marks)), "InvalidPlace")
                self.assert_raises("InvalidPlace", live.may_leave, mark)
                self.assert_raises("InvalidPlace", live.may_pair, mark, 1)
                self.assert_raises("InvalidPlace", live.may_pair, 1, mark)
            self.assert_raises("InvalidPlace", live.may_pair, 1, 1)
            for marks in WRONG_LOTS:
                self.assertEqual(self.deeds_with(live, "come", (marks,)), "InvalidLot")
                self.assertEqual(self.deeds_with(live, "double", (1, marks)), "InvalidLot")
            for marks in ((2,), (0,), (0, 1), (1, 2)):
                # All must be tied with the place.
                self.assertEqual(self.deeds_with(live, "double", (0, marks)), "InvalidLot")

    def test_errors_in_their_sequence(self):
        live = Live(plain.line(12))
        self.assertEqual(self.deeds_with(live, "come", ((12,),)), "InvalidLot")
        self.assertEqual(self.deeds_with(live, "come", ((11,),)), "TooMany")
        self.assertEqual(self.deeds_with(live, "stretch", (0, 12)), "InvalidPlace")
        self.assertEqual(self.deeds_with(live, "stretch", (0, 2)), "Refused")
        self.assertEqual(self.deeds_with(live, "stretch", (1, 0)), "TooMany")
        self.assertEqual(self.deeds_with(live, "double", (0, (2,))), "InvalidLot")
        self.assertEqual(self.deeds_with(live, "double", (0, ())), "TooMany")
        live.leave(0)
        self.assertEqual(self.deeds_with(live, "stretch", (1, 2)), "TooMany")
        self.assertEqual(self.deeds_with(live, "double", (2, (1, 3))), "TooMany")
        self.assertEqual(live.come(()), 12)
        for function, arguments in [(live.come, ((),)), (live.stretch, (1, 2)), (live.double, (1, ()))]:
            with self.assertRaises(TooMany) as caught:
                function(*arguments)
            self.assertEqual(caught.exception.count, 12)

    def test_refused(self):
        live = Live(plain.line(4))
        for name, values in [("tie", (1, 0)), ("untie", (0, 2)), ("stretch", (3, 0)), ("choose", (1, 2)),
                             ("choose", (0, 3)), ("release", (0,))]:
            self.assertEqual(self.deeds_with(live, name, values), "Refused")
        one = Live((1, ()))
        self.assertEqual(self.deeds_with(one, "leave", (0,)), "Refused")
        self.assertEqual(self.deeds_with(one, "leave", (1,)), "InvalidPlace")
        self.assertIsNone(one.release(0))

    def test_refused_because_of_pins_alone(self):
        def pinned(web, *pairs):
            live = PinnedLive(web)
            for pair in pairs:
                live.choose(*pair)
                live.pin(*pair)
            return live

        for web, pair, deed in [
            (plain.line(3), (0, 1), ("come", (0,))), (plain.line(5), (1, 2), ("leave", 4)),
            (plain.line(5), (1, 2), ("untie", 4, 3)), ((4, ((0, 1), (1, 2))), (0, 1), ("tie", 0, 3)),
            (plain.stars(4), (0, 1), ("choose", 0, 2)), (plain.stars(4), (0, 1), ("release", 1)),
            (plain.ring(4), (0, 1), ("choose", 1, 2)), (plain.ring(5), (0, 1), ("release", 0)),
            (plain.ring(6), (0, 1), ("choose", 2, 1)),
        ]:
            live = pinned(web, pair)
            self.assertEqual(self.deeds_with(live, deed[0], deed[1:]), "Refused")
            live.unpin(*pair)
            self.assertIsNone(outcome(call, live, deed)[0])
        live = pinned(plain.line(3), (0, 1))
        self.assertEqual(self.deeds_with(live, "come", ((0,),)), "Refused")
        live = pinned(plain.line(2), (0, 1))
        self.assertEqual(live.come((0,)), 2)
        self.assertEqual(self.deeds_with(live, "come", ((1,),)), "Refused")
        self.assertEqual(self.deeds_with(live, "come", ((1, 9),)), "InvalidLot")
        self.assertEqual(self.deeds_with(live, "choose", (0, 2)), "Refused")
        self.assertEqual(self.deeds_with(live, "release", (1,)), "Refused")
        # What may be, leaves the pins aside.
        self.assertIs(live.may_pair(0, 2), True)
        self.assertIs(live.may_leave(1), True)
        live.unpin(0, 1)
        self.assertEqual(live.come((1,)), 3)
        self.assertEqual(live.sizes()[-1], 2)

    def test_pins(self):
        live = PinnedLive(plain.line(4))
        self.assertEqual(self.deeds_with(live, "pin", (1, 2)), "Refused")
        self.assertEqual(self.deeds_with(live, "unpin", (0, 1)), "Refused")
        kept = live.pairing
        self.assertIsNone(live.pin(3, 2))
        self.assertIsNone(live.pin(0, 1))
        self.assertEqual(live.pinned(), [(2, 3), (0, 1)])
        self.assertEqual([live.row(0), live.row(1)], [(), ()])
        self.assertEqual(self.deeds_with(live, "pin", (2, 3)), "Refused")
        self.assertEqual(live.pairing, kept)
        self.assertIsNone(live.unpin(2, 3))
        self.assertEqual(live.pinned(), [(0, 1)])
        self.assertEqual(live.undo(), ("unpin", 2, 3))
        self.assertEqual(live.pinned(), [(2, 3), (0, 1)])

    def test_pins_are_carried(self):
        live = PinnedLive(plain.line(6))
        for pair in ((2, 3), (0, 1), (4, 5)):
            live.pin(*pair)
        self.assertEqual(live.double(1, (0,)), (6, 7))
        self.assertEqual(live.pinned(), [(2, 3), (0, 6), (4, 5)])
        live.double(2, ())
        self.assertEqual(live.pinned(), [(2, 3), (0, 6), (4, 5)])
        live.undo()
        self.assertEqual(live.double(2, (1,)), (8, 9))
        self.assertEqual(live.pinned(), [(2, 3), (0, 6), (4, 5)])
        self.assertEqual(live.stretch(5, 4), (10, 11))
        self.assertEqual(live.pinned(), [(2, 3), (0, 6)])
        self.assertTrue({(4, 10), (5, 11)} <= set(live.pairing))
        live.untie(6, 0)
        self.assertEqual(live.pinned(), [(2, 3)])
        live.leave(3)
        self.assertEqual(live.pinned(), [])
        while live.deeds:
            live.undo()
        self.assertEqual(live.pinned(), [])

    def test_would_of_any_value(self):
        for kind in (Live, PinnedLive):
            live = kind(plain.line(4))
            before = fields(live)
            wrong = [(), ("come",), ("come", (), ()), ("leave",), ("leave", 0, 1), ("tie", 0),
                     ("tie", 0, 1, 2), ["leave", 0], ("Leave", 0), ("undo",), ("begin",), ("twin",),
                     ("row", 0), ("sizes",), ("would", ("leave", 0)), ("act", ("leave", 0)), (0, 1),
                     ("", 0), (None, 0), (("leave",), 0), (["leave"], 0), ([], 0), ({}, 0), (b"leave", 0), ("leave ", 0), "leave"]
            wrong += plain.wrong_in([("leave", 0)])
            if kind is Live:
                wrong += [("pin", 0, 1), ("unpin", 0, 1), ("pin", None, None)]
            for value in wrong:
                for function in (live.would, lambda deed: replay(plain.line(4), [deed], pinned=kind is PinnedLive)):
                    with self.assertRaises(InvalidDeeds, msg=value) as caught:
                        function(value)
                    self.assertEqual(caught.exception.index, 0)
            self.assertEqual(fields(live), before)
        self.assertEqual(PinnedLive(plain.line(4)).would(("pin", 1, 0)), (2, ()))
        self.assertEqual(Live(plain.line(3)).would(("stretch", 1, 0)), (2, ()))
        size, row = Live(plain.line(3)).would(("come", (0, 2)))
        self.assertEqual((size, row[0] == 3 or row[-1] == 3), (2, True))

    def test_replay(self):
        web = plain.line(4)
        deeds = [("leave", 0), ("come", (1,)), ("tie", 3, 4)]
        live = replay(web, deeds)
        self.assertEqual((type(live), live.deeds, live.depth), (Live, deeds, 0))
        self.assertEqual(type(replay(web, deeds, pinned=True)), PinnedLive)
        self.assertEqual(type(replay(web, [], pinned=False)), Live)
        for value in [None, (), tuple(deeds), "", 0, True, {}, ("leave", 0)]:
            with self.assertRaises(InvalidDeeds) as caught:
                replay(web, value)
            self.assertEqual(caught.exception.index, 0)
        for at, wrong in enumerate([None, ("leave", 9), ("tie", 1, 2), ["come", ()], ("pin", 1, 4)]):
            bad = (deeds * 2)[:at] + [wrong] + deeds
            with self.assertRaises(InvalidDeeds) as caught:
                replay(web, bad)
            self.assertEqual(caught.exception.index, min(at, 3))
        with self.assertRaises(InvalidWeb):
            replay((0, ()), None)
        with self.assertRaises(TypeError):
            replay(web, [], True)
        self.assertEqual(deeds, [("leave", 0), ("come", (1,)), ("tie", 3, 4)])


class Spans(unittest.TestCase):
    def test_undo(self):
        live = Live(plain.line(4))
        with self.assertRaises(NothingToUndo):
            live.undo()
        told = [fields(live)]
        deeds = [("untie", 1, 0), ("come", (0, 3)), ("choose", 3, 4), ("double", 2, (1,)), ("leave", 2)]
        for deed in deeds:
            call(live, deed)
            told.append(fields(live))
        for deed in deeds[::-1]:
            self.assertEqual(fields(live), told.pop())
            self.assertEqual(live.undo(), deed)
        self.assertEqual(fields(live), told.pop())
        with self.assertRaises(NothingToUndo):
            live.undo()

    def test_spans_within_one_another(self):
        live = Live(plain.line(4))
        for function in (live.keep, live.drop):
            with self.assertRaises(NoSpan):
                function()
        live.come(())
        self.assertIsNone(live.begin())
        self.assertEqual(live.depth, 1)
        with self.assertRaises(NothingToUndo):
            live.undo()
        live.tie(4, 0)
        live.begin()
        live.leave(1)
        live.leave(2)
        self.assertEqual(live.depth, 2)
        self.assertEqual(live.undo(), ("leave", 2))
        self.assertIsNone(live.keep())
        self.assertEqual((live.depth, len(live.deeds)), (1, 3))
        # The deeds that were kept are the outer span's.
        self.assertEqual(live.undo(), ("leave", 1))
        live.leave(3)
        self.assertIsNone(live.drop())
        self.assertEqual((live.depth, live.deeds), (0, [("come", ())]))
        self.assertEqual(live.undo(), ("come", ()))
        live.begin()
        live.keep()
        live.begin()
        live.drop()
        self.assertEqual((live.depth, live.deeds, live.next_mark), (0, [], 4))

    def test_twelve_spans(self):
        live = PinnedLive(plain.ring(6))
        told = []
        for at in range(12):
            told.append(fields(live))
            live.begin()
            self.assertEqual(live.depth, at + 1)
            live.come((live.marks[0],)) if at % 3 else live.leave(live.marks[0])
        for _ in range(12):
            live.drop()
            self.assertEqual(fields(live), told.pop())
        with self.assertRaises(NoSpan):
            live.drop()

    def test_errors_leave_spans_as_they_are(self):
        live = Live(plain.line(4))
        live.begin()
        before = fields(live)
        for deed in [("leave", 9), ("tie", 0, 1), ("choose", 1, 2)]:
            outcome(call, live, deed)
            self.assertEqual(fields(live), before)
        with self.assertRaises(NothingToUndo):
            live.undo()
        self.assertEqual(live.depth, 1)

    def test_drawn_spans(self):
        for seed in range(6):
            source = random.Random(seed)
            live = (Live, PinnedLive)[seed % 2](plain.chance_webs(6, 1, seed)[0])
            stack = []
            for _ in range(80):
                sign = source.random()
                if sign < 0.12 and len(stack) < 12:
                    stack.append(fields(live))
                    live.begin()
                elif sign < 0.2 and stack:
                    live.keep()
                    stack.pop()
                elif sign < 0.28 and stack:
                    live.drop()
                    self.assertEqual(fields(live), stack.pop())
                elif sign < 0.4:
                    outcome(live.undo)
                elif len(live.deeds) < 55:
                    outcome(call, live, drawn_deed(live, source, 11))
                self.assertEqual(live.depth, len(stack))
            told = replay(live.start, live.deeds, pinned=isinstance(live, PinnedLive))
            self.assertTrue(told == live)
            self.assertEqual((told.web, told.pairing, told.next_mark, told.sizes()),
                             (live.web, live.pairing, live.next_mark, live.sizes()))
            self.assertEqual([told.row(at) for at in range(60)], [live.row(at) for at in range(60)])


class Twins(unittest.TestCase):
    def test_twins_are_independent(self):
        for kind in (Live, PinnedLive):
            live = kind(plain.line(5))
            live.begin()
            live.come((0,))
            if kind is PinnedLive:
                live.pin(*live.pairing[0])
            other = live.twin()
            self.assertIs(type(other), kind)
            self.assertTrue(live == other and not live != other)
            self.assertEqual((other.depth, other.deeds, other.web), (0, live.deeds, live.web))
            self.assertEqual(other.pairing, live.pairing)
            if kind is PinnedLive:
                self.assertEqual(other.pinned(), live.pinned())
            before, told = fields(live), fields(other)
            other.leave(5)
            self.assertEqual(fields(live), before)
            self.assertFalse(live == other)
            other.undo()
            other.undo()
            self.assertEqual(fields(live), before)
            live.drop()
            other = kind(plain.line(5)).twin()
            self.assertTrue(live == other)
            self.assertNotEqual(fields(live), told)

    def test_equality(self):
        web = plain.line(4)
        live, pins = Live(web), PinnedLive(web)
        self.assertFalse(live == pins)
        self.assertFalse(pins == live)
        self.assertTrue(live != pins)
        self.assertTrue(live == Live(web) and pins == PinnedLive(web))
        # Another class that only has the name.
        other_kind = type("Live", (), {"start": web, "deeds": []})
        for value in [None, 0, web, (), [], "", (web, []), object(), live.deeds, other_kind()]:
            self.assertIs(live == value, False)
            self.assertIs(live != value, True)
        self.assertFalse(Live(plain.line(3)) == live)
        one, two = Live(web), Live(web)
        one.tie(0, 2)
        self.assertIs(one == two, False)
        two.tie(2, 0)
        # The values as they were passed.
        self.assertIs(one == two, False)
        two.undo()
        two.tie(0, 2)
        self.assertIs(one == two, True)
        # Spans do not count.
        two.begin()
        self.assertIs(one == two, True)
        three = Live((4, ((0, 1), (0, 2), (1, 2), (2, 3))))
        self.assertEqual(three.web, one.web)
        self.assertIs(one == three, False)


if __name__ == "__main__":
    unittest.main()
