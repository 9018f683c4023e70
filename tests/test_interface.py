import inspect
import re
import unittest

from tests import functions
from everypairing import console, errors, live

WITH_TEXT = """
    InvalidWeb InvalidPairing InvalidTie InvalidPlace InvalidLot InvalidRow InvalidCount
    InvalidTies InvalidEars InvalidSwitch InvalidShares InvalidWeights InvalidPricing InvalidWalk
    InvalidCommand NotShort Refused NothingToUndo NoSpan NotReady
""".split()
WITH_FIELD = {
    "InvalidText": "index", "InvalidDeeds": "index", "TooMany": "count", "NotGreatest": "row",
    "NotFull": "lot", "NotBuilt": "lot", "NotCovered": "tie", "NotBarrier": "excess",
    "NotTwoSided": "odd_round", "NotMixture": "lot", "NotNearFull": "place", "NotMeeting": "count",
}
VALUES = [0, -3, 10 ** 80, None, True, "text", "", (), (0, 1), [], [[1], (2,)], {"a": 1}, object()]


class Functions(unittest.TestCase):
    def test_all_stand_in_their_files(self):
        parts = [14, 10, 4, 14, 11, 10, 8, 12, 12, 3, 7, 3, 6, 5, 4, 9, 12, 2]
        self.assertEqual(len(functions.listed()), sum(parts))
        for module, name, words in functions.listed():
            function = getattr(module, name)
            self.assertTrue(inspect.isfunction(function))
            self.assertEqual(function.__module__, module.__name__)
            parameters = inspect.signature(function).parameters.values()
            self.assertEqual([str(parameter) for parameter in parameters], words)
            for parameter in parameters:
                self.assertEqual(parameter.kind, parameter.POSITIONAL_OR_KEYWORD)

    def test_by_position_and_by_name(self):
        for function, names, arguments in functions.calls():
            told = function(*arguments)
            self.assertEqual(repr(function(**dict(zip(names, arguments)))), repr(told))
            half = dict(list(zip(names, arguments))[1:][::-1])
            self.assertEqual(repr(function(arguments[0], **half)), repr(told))

    def test_questions_are_answered_by_truths(self):
        for function, _, arguments in functions.calls():
            if function.__name__.startswith(("is_", "are_")):
                self.assertIsInstance(function(*arguments), bool)


METHODS = {
    live.Live: """
        __init__(self, web) come(self, marks) leave(self, mark) tie(self, mark, other_mark)
        untie(self, mark, other_mark) stretch(self, mark, other_mark) double(self, mark, marks)
        choose(self, mark, other_mark) release(self, mark) row(self, number) sizes(self) lots(self)
        may_pair(self, mark, other_mark) may_leave(self, mark) would(self, deed) undo(self)
        begin(self) keep(self) drop(self) twin(self) __eq__(self, other)
    """,
    live.PinnedLive: "pin(self, mark, other_mark) unpin(self, mark, other_mark) pinned(self)",
    console.Console: "__init__(self) execute(self, command)",
}


class Classes(unittest.TestCase):
    def test_methods_stand_in_their_classes(self):
        for kind, text in METHODS.items():
            for name, words in re.findall(r"(\w+)\(([^()]*)\)", text):
                method = vars(kind)[name]
                self.assertEqual(str(inspect.signature(method)), "(" + words + ")")
        self.assertEqual(live.PinnedLive.__bases__, (live.Live,))
        for kind, module in [(live.Live, live), (live.PinnedLive, live), (console.Console, console)]:
            self.assertEqual(kind.__module__, module.__name__)

    def test_replay(self):
        self.assertEqual(live.replay.__module__, live.__name__)
        self.assertEqual(str(inspect.signature(live.replay)), "(web, deeds, *, pinned=False)")


class Errors(unittest.TestCase):
    def test_no_others_and_none_above_another_one(self):
        self.assertEqual(errors.PairError.__bases__, (ValueError,))
        found = [value for value in vars(errors).values() if isinstance(value, type)]
        self.assertEqual({value.__name__ for value in found},
                         set(WITH_TEXT) | set(WITH_FIELD) | {"PairError"})
        for value in found:
            self.assertEqual(value.__module__, "everypairing.errors")
            if value is not errors.PairError:
                self.assertEqual(value.__bases__, (errors.PairError,))

    def caught(self, error):
        for kind in (type(error), errors.PairError, ValueError):
            try:
                raise error
            except kind as held:
                self.assertIs(held, error)
        for name in WITH_TEXT + list(WITH_FIELD):
            self.assertEqual(isinstance(error, getattr(errors, name)), type(error).__name__ == name)

    def test_made_with_one_string(self):
        for name in WITH_TEXT + ["PairError"]:
            error = getattr(errors, name)("any text")
            self.caught(error)
            self.assertEqual(str(error), "any text")

    def test_the_field_keeps_the_very_value(self):
        for name, field in WITH_FIELD.items():
            for value in VALUES:
                error = getattr(errors, name)(value)
                self.assertIs(getattr(error, field), value)
                self.caught(error)
                named = getattr(errors, name)(**{field: value})
                self.assertIs(getattr(named, field), value)
                self.caught(named)
                self.assertIsInstance(str(error), str)
            with self.assertRaises(TypeError):
                getattr(errors, name)()

    def test_the_initial_methods_stand_in_their_classes(self):
        for name in WITH_FIELD:
            self.assertIn("__init__", vars(getattr(errors, name)))


if __name__ == "__main__":
    unittest.main()
