"""The console: live webs that stand by names, and commands to them."""

from everypairing.commands import BETWEEN, MAKING
from everypairing.commands import command_of, told_command, told_run
from everypairing.errors import NotReady, Refused
from everypairing.live import Live, PinnedLive
from everypairing.paper_texts import paper_text
from everypairing.webs import web_text, web_told

NOTHING = "none"
DONE = "ok"


class Console:
    """Live webs by their names, one of which is chosen."""

    def __init__(self):
        self._lives = {}
        self._chosen = None

    def execute(self, command):
        """The answer to the command."""
        commands = told_run(command)
        if commands is None:
            word, values = told_command(command)
            return self._answer(word, values)
        # A run changes copies, which are taken over if all of it has gone well.
        trial = Console()
        trial._take_over({name: live.copied() for name, live in self._lives.items()}, self._chosen)
        answers = []
        for word, values in commands:
            answers.append(trial._answer(word, values))
        self._take_over(trial._lives, trial._chosen)
        return BETWEEN.join(answers)

    def _take_over(self, lives, chosen):
        """Take the live webs and the choice on."""
        self._lives = lives
        self._chosen = chosen

    def _answer(self, word, values):
        """The answer to a command that is no run."""
        if word in MAKING:
            return self._make(word, values[0], values[1])
        if word == "use" or word == "forget":
            return self._use_or_forget(word, values[0])
        live = self._live(self._chosen)
        if word == "twin":
            self._lives[values[0]] = live.twin()
            return DONE
        if word == "same":
            return _yes_or_no(live == self._live(values[0]))
        if word == "journal":
            return _journal(self._chosen, live)
        if word in QUESTIONS:
            action = QUESTIONS[word]
            return action(live, values)
        return _done(live, word, values)

    def _live(self, name):
        """The live web that stands by the name; NotReady if none does, or the name is None."""
        if name not in self._lives:
            raise NotReady("no live web stands there")
        return self._lives[name]

    def _make(self, word, name, text):
        """A new live web stands by the name and is chosen."""
        web = web_told(text)
        self._lives[name] = PinnedLive(web) if word == "pinned" else Live(web)
        self._chosen = name
        return DONE

    def _use_or_forget(self, word, name):
        """Choose the live web of the name, or let none stand there any more."""
        self._live(name)
        if word == "use":
            self._chosen = name
        else:
            del self._lives[name]
            if self._chosen == name:
                self._chosen = None
        return DONE


def _done(live, word, values):
    """The answer to a deed of the live web, to undo, or to the command of a span."""
    if word == "undo":
        return command_of(live.undo())
    if word in SPANS:
        return _span(live, word)
    if word in ("pin", "unpin") and not isinstance(live, PinnedLive):
        raise Refused("nothing can be pinned here")
    told = live.act(_deed(word, values))
    if told is None:
        return DONE
    return _listed(told if isinstance(told, tuple) else (told,))


def _deed(word, values):
    """The deed with these marks."""
    if word == "come":
        return (word, values)
    if word == "double":
        return (word, values[0], values[1:])
    return (word,) + values


def _span(live, word):
    """The answer when a span begins or ends."""
    if word == "begin":
        live.begin()
    elif word == "keep":
        live.keep()
    else:
        live.drop()
    return DONE


def _show(live, values):
    """The text of the web."""
    return web_text(live.web)


def _marks(live, values):
    """The marks that are there."""
    return _listed(live.marks)


def _pairing(live, values):
    """The kept pairing."""
    return _pairs_text(live.pairing)


def _alone(live, values):
    """The marks that are alone in the kept pairing."""
    paired = [mark for pair in live.pairing for mark in pair]
    return _listed([mark for mark in live.marks if mark not in paired])


def _lots(live, values):
    """The three lots."""
    return " ".join([_joined("+", lot) for lot in live.lots()])


def _sizes(live, values):
    """The sizes of the kept pairing, one behind the other."""
    return _listed(live.sizes())


def _row(live, values):
    """The row of a deed."""
    return _joined("-", live.row(values[0]) or ())


def _may(live, values):
    """Whether some greatest pairing has the pair, or leaves the place alone."""
    if len(values) == 2:
        return _yes_or_no(live.may_pair(values[0], values[1]))
    return _yes_or_no(live.may_leave(values[0]))


def _pins(live, values):
    """The pinned pairs."""
    return _pairs_text(live.pinned() if isinstance(live, PinnedLive) else [])


def _where(live, values):
    """The numbers of places, of deeds and of open spans."""
    return _listed((live.web[0], len(live.deeds), live.depth))


def _paper(live, values):
    """The text of the paper of the web, the kept pairing and the holding places."""
    there = live.marks
    pairing = tuple([(there.index(one), there.index(other)) for one, other in live.pairing])
    lot = tuple([there.index(mark) for mark in live.lots()[1]])
    return paper_text(live.web, pairing, lot)


def _journal(name, live):
    """The commands that make the live web anew."""
    word = "pinned" if isinstance(live, PinnedLive) else "web"
    first = " ".join([word, name, web_text(live.start)])
    return BETWEEN.join([first] + [command_of(deed) for deed in live.deeds])


def _pairs_text(pairs):
    """The pairs, with blanks between them."""
    return " ".join([_joined("-", pair) for pair in pairs]) if pairs else NOTHING


def _listed(numbers):
    """The numbers with blanks between them."""
    return _joined(" ", numbers)


def _joined(sign, numbers):
    """The numbers with the sign between them; "none" for none."""
    return sign.join([str(number) for number in numbers]) if numbers else NOTHING


def _yes_or_no(truth):
    """The word for a truth."""
    return "yes" if truth else "no"


SPANS = ("begin", "keep", "drop")
QUESTIONS = {
    "show": _show, "marks": _marks, "pairing": _pairing, "alone": _alone, "lots": _lots,
    "sizes": _sizes, "row": _row, "may": _may, "pins": _pins, "where": _where, "paper": _paper,
}
