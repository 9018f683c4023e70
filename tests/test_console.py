import copy
import random
import re
import unittest

from tests import plain
from tests.test_live import drawn_deed
from tests.test_texts import text_of
from everypairing.console import Console
from everypairing.errors import InvalidCommand, InvalidText, NotReady, PairError, Refused, TooMany
from everypairing.live import Live, PinnedLive
from everypairing.paper_texts import paper_told
from everypairing.webs import web_text, web_told

NAME = r"[a-z]{1,8}"
MARK = r"(?:0|[1-9][0-9]{0,3})"
COMMAND = "|".join([
    rf"(?:web|pinned) {NAME} [^ ]+", rf"(?:use|twin|forget|same) {NAME}", rf"come(?: {MARK})*",
    rf"(?:leave|release|row) {MARK}", rf"(?:tie|untie|stretch|choose|pin|unpin) {MARK} {MARK}",
    rf"double {MARK}(?: {MARK})*", rf"may {MARK}(?: {MARK})?",
    "undo|begin|keep|drop|show|marks|pairing|alone|lots|sizes|pins|where|paper|journal",
])
QUESTIONS = "show marks pairing alone lots sizes pins where paper journal".split()


def is_command(value):
    if not isinstance(value, str):
        return False
    return bool(re.fullmatch(rf"(?:{COMMAND})|run (?:{COMMAND})(?:; (?:{COMMAND}))*", value))


class PlainConsole:
    """A second reckoning over live webs; what a run has spoilt is brought back from a copy."""

    def __init__(self):
        self.names = {}
        self.chosen = None

    def execute(self, command):
        if not is_command(command):
            raise InvalidCommand("")
        if not command.startswith("run "):
            return self.answer(command.split(" "))
        before = copy.deepcopy((self.names, self.chosen))
        try:
            return "; ".join([self.answer(part.split(" ")) for part in command[4:].split("; ")])
        except PairError:
            self.names, self.chosen = before
            raise

    def live(self, name):
        if name is None or name not in self.names:
            raise NotReady("")
        return self.names[name]

    def answer(self, words):
        word, rest = words[0], words[1:]
        if word in ("web", "pinned"):
            self.names[rest[0]] = {"web": Live, "pinned": PinnedLive}[word](web_told(rest[1]))
            self.chosen = rest[0]
            return "ok"
        if word == "use":
            self.live(rest[0])
            self.chosen = rest[0]
            return "ok"
        if word == "forget":
            self.live(rest[0])
            self.chosen = None if self.chosen == rest[0] else self.chosen
            del self.names[rest[0]]
            return "ok"
        live = self.live(self.chosen)
        if word == "twin":
            self.names[rest[0]] = live.twin()
            return "ok"
        if word == "same":
            return "yes" if live == self.live(rest[0]) else "no"
        return self.told(live, word, [int(mark) for mark in rest])

    def told(self, live, word, marks):
        pinned = isinstance(live, PinnedLive)
        if word in ("pin", "unpin") and not pinned:
            raise Refused("")
        if word == "come":
            return str(live.come(tuple(marks)))
        if word == "double":
            return "{} {}".format(*live.double(marks[0], tuple(marks[1:])))
        if word == "stretch":
            return "{} {}".format(*live.stretch(*marks))
        if word in "leave tie untie choose release pin unpin begin keep drop".split():
            getattr(live, word)(*marks)
            return "ok"
        if word == "undo":
            return as_command(live.undo())
        if word == "may":
            return ["no", "yes"][live.may_pair(*marks) if len(marks) == 2 else live.may_leave(*marks)]
        if word == "row":
            return "-".join(map(str, live.row(marks[0]) or ())) or "none"
        return self.question(live, word, pinned)

    def question(self, live, word, pinned):
        paired = sorted(mark for pair in live.pairing for mark in pair)
        first = ("pinned" if pinned else "web") + f" {self.chosen} " + web_text(live.start)
        return {
            "show": lambda: web_text(live.web),
            "marks": lambda: " ".join(map(str, live.marks)),
            "pairing": lambda: " ".join(f"{x}-{y}" for x, y in live.pairing) or "none",
            "alone": lambda: " ".join(str(x) for x in live.marks if x not in paired) or "none",
            "lots": lambda: " ".join("+".join(map(str, lot)) or "none" for lot in live.lots()),
            "sizes": lambda: " ".join(map(str, live.sizes())),
            "pins": lambda: " ".join(f"{x}-{y}" for x, y in (live.pinned() if pinned else [])) or "none",
            "where": lambda: f"{len(live.marks)} {len(live.deeds)} {live.depth}",
            "paper": lambda: paper_of(live),
            "journal": lambda: "; ".join([first] + [as_command(deed) for deed in live.deeds]),
        }[word]()


def as_command(deed):
    marks = [x for value in deed[1:] for x in (value if isinstance(value, tuple) else (value,))]
    return " ".join([deed[0]] + [str(mark) for mark in marks])


def paper_of(live):
    letter = dict(zip(live.marks, "abcdefghijkl"))
    ties = ",".join(letter[x] + letter[y] for x, y in live.pairing)
    return web_text(live.web) + ";" + ties + ";" + "".join(letter[x] for x in live.lots()[1])


def outcome(console, command):
    try:
        return None, console.execute(command)
    except PairError as error:
        return type(error).__name__, vars(error)


def shown(console):
    """All that a console tells of itself, asked of each name without choosing it."""
    told = [outcome(console, question) for question in QUESTIONS]
    told += [outcome(console, f"row {at}") for at in range(4)]
    trial = copy.deepcopy(console)
    for name in "abcdefghijkl":
        told.append(outcome(trial, "use " + name))
        told += [outcome(trial, question) for question in QUESTIONS]
    return told


class Consoles(unittest.TestCase):
    def check(self, console, model, command):
        self.assertEqual(outcome(console, command), outcome(model, command), command)

    def drawn(self, model, source):
        """A command that is likely to be one that can be done."""
        live = model.names.get(model.chosen)
        name = source.choice("abcdefgh")
        kind = source.random()
        if live is None or kind < 0.08:
            web = plain.chance_webs(source.randrange(1, 8), 1, source.randrange(50))[0]
            return f"{source.choice(('web', 'pinned'))} {name} {text_of(web)}"
        if kind < 0.25:
            return source.choice(("use", "twin", "same", "forget", "use", "twin")) + " " + name
        if kind < 0.36:
            return source.choice(("begin", "keep", "drop", "undo", "undo"))
        if kind < 0.7:
            if len(live.deeds) > 50:
                return "undo"
            return as_command(drawn_deed(live, source, 11))
        if kind < 0.75:
            return f"row {source.randrange(12)}"
        if kind < 0.85:
            marks = source.sample(live.marks, min(len(live.marks), source.choice((1, 2))))
            return " ".join(["may"] + [str(mark) for mark in marks])
        return source.choice(QUESTIONS)

    def test_drawn_commands(self):
        for seed in range(12):
            source = random.Random(seed)
            console, model = Console(), PlainConsole()
            for _ in range(120):
                self.check(console, model, self.drawn(model, source))
            self.assertEqual(shown(console), shown(model))

    def test_drawn_runs(self):
        for seed in range(10):
            source = random.Random(100 + seed)
            console, model = Console(), PlainConsole()
            for _ in range(25):
                trial = copy.deepcopy(model)
                commands = []
                for _ in range(source.randrange(1, 12)):
                    commands.append(self.drawn(trial, source))
                    outcome(trial, commands[-1])
                self.check(console, model, "run " + "; ".join(commands))
                self.assertEqual(shown(console), shown(model))

    def test_each_command(self):
        console = Console()
        for command, answer in [
            ("web a d:ab,bc,cd", "ok"), ("show", "d:ab,bc,cd"), ("marks", "0 1 2 3"), ("pairing", "0-1 2-3"),
            ("alone", "none"), ("lots", "none none 0+1+2+3"), ("sizes", "2"), ("row 0", "none"),
            ("may 0 1", "yes"), ("may 1 0", "yes"), ("may 1 2", "no"), ("may 0", "no"), ("pins", "none"),
            ("where", "4 0 0"), ("paper", "d:ab,bc,cd;ab,cd;"), ("journal", "web a d:ab,bc,cd"),
            ("come 0 3", "4"), ("row 0", "none"), ("come", "5"), ("untie 1 0", "ok"), ("tie 0 1", "ok"),
            ("leave 5", "ok"), ("release 4", "ok"), ("choose 4 3", "ok"), ("pairing", "0-1 3-4"),
            ("stretch 1 0", "6 7"), ("double 2 3", "8 9"), ("undo", "double 2 3"), ("double 2", "8 9"),
            ("undo", "double 2"), ("undo", "stretch 1 0"), ("undo", "choose 4 3"), ("undo", "release 4"),
            ("where", "5 5 0"), ("begin", "ok"), ("come", "6"), ("where", "6 6 1"), ("drop", "ok"),
            ("begin", "ok"), ("begin", "ok"), ("keep", "ok"), ("keep", "ok"), ("where", "5 5 0"),
            ("journal", "web a d:ab,bc,cd; come 0 3; come; untie 1 0; tie 0 1; leave 5"),
            ("twin b", "ok"), ("same b", "yes"), ("use b", "ok"), ("leave 4", "ok"), ("same a", "no"),
            ("same b", "yes"), ("journal", "web b d:ab,bc,cd; come 0 3; come; untie 1 0; tie 0 1; leave 5; leave 4"),
            ("use a", "ok"), ("forget a", "ok"), ("use b", "ok"), ("pinned b c:", "ok"), ("where", "3 0 0"),
            ("pairing", "none"), ("alone", "0 1 2"), ("lots", "0+1+2 none none"), ("tie 0 2", "ok"),
            ("row 0", "0-2"), ("pin 2 0", "ok"), ("pins", "0-2"), ("unpin 0 2", "ok"), ("pins", "none"),
            ("journal", "pinned b c:; tie 0 2; pin 2 0; unpin 0 2"), ("sizes", "0 1 1 1"),
            ("web x a:", "ok"), ("paper", "a:;;"), ("lots", "0 none none"), ("same b", "no"),
        ]:
            told = console.execute(command)
            if command == "row 0" and answer == "0-2":
                self.assertIn(told, ("0-2", "2-0"))
            else:
                self.assertEqual(told, answer, command)
            self.assertIs(type(told), str)

    def test_rows(self):
        console, live = Console(), Live(plain.ring(4))
        console.execute("web a " + text_of(plain.ring(4)))
        x, y = [pair for pair in ((0, 1), (1, 2)) if pair not in live.pairing][0]
        console.execute(f"choose {x} {y}")
        live.choose(x, y)
        self.assertEqual(console.execute("row 0"), "-".join(map(str, live.row(0))))
        self.assertEqual(len(live.row(0)), 5)
        self.assertEqual(console.execute("row 9999"), "none")

    def test_twin_by_the_own_name(self):
        console = Console()
        console.execute("run web a c:ab; begin; come 0; begin")
        self.assertEqual(console.execute("where"), "4 1 2")
        self.assertEqual(console.execute("twin a"), "ok")
        # The twin, which has no span, is the chosen one.
        self.assertEqual(console.execute("where"), "4 1 0")
        self.assertEqual(console.execute("run twin b; undo; same b"), "ok; come 0; no")
        self.assertEqual(console.execute("run use b; where"), "ok; 4 1 0")

    def test_the_name_of_the_chosen_one_again(self):
        console = Console()
        self.assertEqual(console.execute("run web a c:; web b b:; web a d:; show; use b; show"),
                         "ok; ok; ok; d:; ok; b:")
        # A new one under the own name of the chosen one, and another one's under a name that stood.
        self.assertEqual(console.execute("run pinned b a:; show; twin a; use a; show"), "ok; a:; ok; ok; a:")

    def test_nobody_is_chosen(self):
        console = Console()
        wanting = [word for word in QUESTIONS] + ["row 0", "may 0", "may 0 1", "come", "leave 0", "tie 0 1",
                   "untie 0 1", "stretch 0 1", "double 0", "choose 0 1", "release 0", "pin 0 1", "unpin 0 1",
                   "undo", "begin", "keep", "drop", "twin a", "same a", "use a", "forget a"]
        for command in wanting:
            with self.assertRaises(NotReady, msg=command):
                console.execute(command)
            with self.assertRaises(NotReady, msg=command):
                console.execute("run " + command)
        console.execute("run web a b:ab; web b b:; forget b")
        for command in wanting[:-2]:
            with self.assertRaises(NotReady, msg=command):
                console.execute(command)
        self.assertEqual(console.execute("run use a; show"), "ok; b:ab")
        for command in ("use b", "same b", "forget b"):
            with self.assertRaises(NotReady):
                console.execute(command)
        self.assertEqual(console.execute("show"), "b:ab")


BAD = """
run|run |web|web a|web a |web a b: |web  a b:|web A b:|web a1 b:|web abcdefghi b:|web a b: c|web  b:
pinned a|pinned|use|use |use A|use a b|use 1|twin|twin a b|forget|same|same a b|come |come a|come 00|come 01
come 0  1|come  0|come 12345|come -1|come +1|come 0,1|leave|leave 0 1|leave a|leave 00|tie 0|tie 0 1 2|tie 0 a
untie 0|stretch 0|stretch|double|double |double a|double 0 00|choose 0|choose 0 1 2|release|release 0 1
pin 0|unpin 0|pin 0 1 2|unpin 0 1 2|untie 0 1 2|stretch 0 1 2|keep 0|drop 0|journal 0|paper 0|undo 1|undo |begin 0|keep a|drop x|show 0|show a|marks 0|pairing 0|alone 1|lots 0
sizes 0|row|row 0 1|row a|row 00|may|may 0 1 2|may a|may 00|pins 0|where 0|paper 0|journal a| show|show 
Show|SHOW|shows|help||  |show;|show; marks|show ;|run show;|run show; |run  show|run show ; show|run show;show
run run show|run show; run show|run show;  show|run ; show|run show; ; show|run x|run show; x|run show, show|;
""".replace("\n", "|").split("|")


class Wrong(unittest.TestCase):
    def test_commands_that_are_none(self):
        console = Console()
        console.execute("run web a d:ab,bc,cd; begin; come 0")
        before = shown(console)
        values = set(BAD) | {"show\n", "\nshow", "show\t", "leave 0\n", "leave\t0", "web a\tb:", "use a\n",
                             "run show;\tshow", "run show;\nshow", "web a\n b:", "leave 1\u0663", "use \xe9"}
        for value in sorted(values):
            self.assertFalse(is_command(value), value)
            with self.assertRaises(InvalidCommand, msg=repr(value)):
                console.execute(value)
            if ";" not in value and not value.startswith("run"):
                with self.assertRaises(InvalidCommand):
                    console.execute("run show; " + value)
        for value in [None, True, 0, (), [], ("show",), ["show"], b"show", {"show": 1}, 1.5, 10 ** 80,
                      "a" * 20000, "come" + " 0" * 9000 + " 00", "run " + "show; " * 3000]:
            with self.assertRaises(InvalidCommand):
                console.execute(value)
        self.assertEqual(shown(console), before)

    def test_commands_bent_at_each_spot(self):
        console = Console()
        console.execute("run web a d:ab,bc,cd; twin b")
        for command in ["web a b:ab", "use b", "come 0 3", "double 10 2", "may 1 2", "row 0", "journal",
                        "run show; use b; tie 0 2", "pinned abcdefgh a:"]:
            self.assertTrue(is_command(command))
            for at in range(len(command) + 1):
                for text in [command[:at], command[:at] + command[at + 1:]] + [
                        command[:at] + sign + command[at + skip:] for sign in " 0az;A-" for skip in (0, 1)]:
                    trial = copy.deepcopy(console)
                    told = outcome(trial, text)
                    self.assertEqual(told[0] != "InvalidCommand", is_command(text), text)

    def test_errors_in_their_sequence(self):
        console = Console()
        for command, error in [
            ("come 00", InvalidCommand), ("come 0", NotReady), ("web a x", InvalidText), ("same a", NotReady),
            ("use a", NotReady), ("twin a", NotReady), ("pin 9 9", NotReady), ("run come 0; x", InvalidCommand),
            ("run web a x; come 00", InvalidCommand), ("run web a x; come 0", InvalidText),
            ("run come 0; web a x", NotReady),
        ]:
            with self.assertRaises(error) as caught:
                console.execute(command)
            self.assertIs(type(caught.exception), error)
        console.execute("web a d:ab,bc,cd")
        for command, name in [
            ("come 3 1", "InvalidLot"), ("come 1 1", "InvalidLot"), ("come 4", "InvalidLot"),
            ("leave 4", "InvalidPlace"), ("tie 0 0", "InvalidPlace"), ("tie 0 9999", "InvalidPlace"),
            ("tie 0 1", "Refused"), ("untie 0 2", "Refused"), ("double 0 2", "InvalidLot"),
            ("double 4 2", "InvalidPlace"), ("double 1 2 0", "InvalidLot"), ("stretch 0 2", "Refused"),
            ("choose 1 2", "Refused"), ("release 0", "Refused"), ("undo", "NothingToUndo"), ("keep", "NoSpan"),
            ("drop", "NoSpan"), ("may 4", "InvalidPlace"), ("may 0 0", "InvalidPlace"), ("pin 0 1", "Refused"),
            ("pin 9 9", "Refused"), ("unpin 0 1", "Refused"), ("unpin 7 7", "Refused"), ("same b", "NotReady"),
        ]:
            before = shown(console)
            self.assertEqual(outcome(console, command)[0], name, command)
            self.assertEqual(outcome(console, "run leave 3; undo; " + command)[0], name, command)
            self.assertEqual(shown(console), before)
        console.execute("pinned a b:ab")
        for command, name in [("pin 9 9", "InvalidPlace"), ("pin 0 0", "InvalidPlace"), ("unpin 0 1", "Refused")]:
            self.assertEqual(outcome(console, command)[0], name)

    def test_the_index_in_the_text(self):
        console = Console()
        for text, index in [("x", 0), ("d", 1), ("d:ab,ab", 6), ("d:ab;", 4), ("d:\n", 2), ("d:ab\t", 4)]:
            for command in (f"web a {text}", f"pinned abc {text}", f"run web a a:; web b {text}; show"):
                with self.assertRaises(InvalidText) as caught:
                    console.execute(command)
                self.assertEqual(caught.exception.index, index)
        with self.assertRaises(NotReady):
            console.execute("use a")

    def test_too_many_places(self):
        console = Console()
        console.execute("web a l:ab")
        for command in ("come", "stretch 0 1", "double 0 1", "run leave 3; stretch 0 1"):
            with self.assertRaises(TooMany) as caught:
                console.execute(command)
            self.assertEqual(caught.exception.count, 12)
        self.assertEqual(console.execute("run leave 2; come 0 1"), "ok; 12")


class Runs(unittest.TestCase):
    def test_a_run_that_fails_is_taken_back(self):
        console = Console()
        console.execute("run web a d:ab,bc,cd; come 0; begin; tie 1 3; pinned b b:ab; pin 0 1; use a")
        before = shown(console)
        for part in ["leave 0", "undo", "keep", "drop", "begin", "begin; begin; leave 1", "twin c", "twin a",
                     "twin b", "forget a", "forget b", "use b", "use b; unpin 0 1; come", "web a a:",
                     "web c a:", "pinned b c:abc", "choose 0 4", "release 4", "drop; undo", "keep; undo; undo"]:
            for last in ("use x", "untie 0 2", "leave 99", "web z x", "use z", "same x"):
                self.assertIsNotNone(outcome(console, f"run {part}; {last}")[0])
                self.assertEqual(shown(console), before, part)
        self.assertEqual(console.execute("run undo; same a"), "tie 1 3; yes")

    def test_answers(self):
        console = Console()
        self.assertEqual(console.execute("run web a b:ab"), "ok")
        self.assertEqual(console.execute("run pairing; lots; alone; journal"),
                         "0-1; none none 0+1; none; web a b:ab")
        # A blank ends the text of a web, a semicolon does not.
        with self.assertRaises(InvalidText) as caught:
            console.execute("run web a b:ab;; show")
        self.assertEqual(caught.exception.index, 4)

    def test_eight_names_and_sixty_four_commands(self):
        console = Console()
        names = "abcdefgh"
        told = console.execute("run " + "; ".join([f"web {name} {name}:" for name in names]))
        self.assertEqual(told, "; ".join(["ok"] * 8))
        for name in names:
            self.assertEqual(console.execute(f"run use {name}; show"), f"ok; {name}:")
        command = "run web a f:ab; " + "; ".join(["tie 0 2; untie 2 0; show"] * 21)
        self.assertEqual(command.count("; "), 63)
        self.assertEqual(console.execute(command), "ok; " + "; ".join(["ok; ok; f:ab"] * 21))
        self.assertEqual(console.execute("where"), "6 42 0")

    def test_spans_twelve_deep(self):
        console = Console()
        console.execute("run web a f:ab,bc; " + "; ".join(["begin; come 0; leave 0; undo; undo"] * 12))
        self.assertEqual(console.execute("where"), "6 0 12")
        self.assertEqual(console.execute("run " + "; ".join(["drop"] * 12)), "; ".join(["ok"] * 12))
        self.assertEqual(outcome(console, "keep")[0], "NoSpan")


class Journals(unittest.TestCase):
    def assert_answers_as(self, console, other):
        for question in QUESTIONS:
            if question != "where":
                self.assertEqual(other.execute(question), console.execute(question))
        for at in range(62):
            self.assertEqual(other.execute(f"row {at}"), console.execute(f"row {at}"))

    def test_journals(self):
        # Q2, also with 60 deeds and with twins.
        for seed in range(8):
            source = random.Random(seed)
            web = plain.chance_webs(7, 1, seed)[0]
            kind, word = ((Live, "web"), (PinnedLive, "pinned"))[seed % 2]
            live, console = kind(web), Console()
            console.execute(f"{word} abc {text_of(web)}")
            while len(live.deeds) < 60:
                deed = drawn_deed(live, source, 11)
                try:
                    getattr(live, deed[0])(*deed[1:])
                except PairError:
                    self.assertIsNotNone(outcome(console, as_command(deed))[0])
                    continue
                console.execute(as_command(deed))
                if source.random() < 0.1:
                    console.execute("begin")
            if seed % 3 == 0:
                console.execute("run twin xy; use xy")
            journal = console.execute("journal")
            self.assertEqual(journal.count("; "), 60)
            other = Console()
            other.execute("run " + journal)
            self.assert_answers_as(console, other)
            self.assertEqual(other.execute("where").split()[:2], console.execute("where").split()[:2])
            self.assertEqual(console.execute("sizes"), " ".join(map(str, live.sizes())))

    def test_papers(self):
        for web in plain.small_webs(many=5) + plain.large_webs():
            console = Console()
            console.execute("web a " + text_of(web))
            told, _, lot = paper_told(console.execute("paper"))
            self.assertEqual(told, web)
            self.assertEqual(lot, Live(web).lots()[1])

    def test_no_public_fields(self):
        console = Console()
        console.execute("run web a b:; web b c:; come")
        self.assertEqual([name for name in vars(console) if not name.startswith("_")], [])
        self.assertIn("execute", vars(Console))
        self.assertEqual(console.execute(command="where"), "4 1 0")
        # Two consoles know nothing of one another.
        with self.assertRaises(NotReady):
            Console().execute("use a")


if __name__ == "__main__":
    unittest.main()
