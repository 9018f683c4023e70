"""Live webs: webs that deeds change, with a greatest pairing that is kept."""

from everypairing.checks import check_number, check_web, is_list
from everypairing.deeds import behind, first_state, fits_deed, place_of, tie_between
from everypairing.errors import InvalidDeeds, NoSpan, NothingToUndo, PairError
from everypairing.masks import all_places, near_masks, places_in
from everypairing.parts import three_masks
from everypairing.shares_of_ties import greatest_with


class Live:
    """A web that deeds change; its places have marks that stay as long as they are there."""

    def __init__(self, web):
        check_web(web)
        self.start = web
        self.depth = 0
        # Tuples (deed, row, state ahead of it), and the numbers of deeds ahead of each open span.
        self._past = []
        self._spans = []
        self._stand(first_state(web))

    def __eq__(self, other):
        return (
            isinstance(other, Live) and self.__class__.__name__ == other.__class__.__name__
            and self.start == other.start and self.deeds == other.deeds
        )

    @property
    def deeds(self):
        """The list of the deeds that stand; a new one each time it is read."""
        return [deed for deed, row, ahead in self._past]

    def come(self, marks):
        """A place comes, tied with those of the marks; returns its mark."""
        return self.act(("come", marks))

    def leave(self, mark):
        """The place of the mark goes."""
        return self.act(("leave", mark))

    def tie(self, mark, other_mark):
        """The two are tied from now on."""
        return self.act(("tie", mark, other_mark))

    def untie(self, mark, other_mark):
        """The two are no longer tied."""
        return self.act(("untie", mark, other_mark))

    def stretch(self, mark, other_mark):
        """Two places come within the tie of the two; returns their marks."""
        return self.act(("stretch", mark, other_mark))

    def double(self, mark, marks):
        """Two places come, the first one takes over ties of the place; returns their marks."""
        return self.act(("double", mark, marks))

    def choose(self, mark, other_mark):
        """The kept pairing has the pair from now on."""
        return self.act(("choose", mark, other_mark))

    def release(self, mark):
        """The kept pairing leaves the place alone from now on."""
        return self.act(("release", mark))

    def row(self, number):
        """The row of the deed with this index; None if there is no such deed."""
        check_number(number)
        return self._past[number][1] if number < len(self._past) else None

    def sizes(self):
        """The list of the sizes of the kept pairing behind 0, 1, .. deeds."""
        return [len(ahead[3]) for deed, row, ahead in self._past] + [len(self.pairing)]

    def lots(self):
        """The tuple of the open, the holding and the closed places, in marks."""
        masks = three_masks(near_masks(self.web), all_places(self.web))[1:]
        return tuple([tuple([self.marks[place] for place in places_in(mask)]) for mask in masks])

    def may_pair(self, mark, other_mark):
        """Whether some greatest pairing has the pair."""
        tie = tie_between(self._state, mark, other_mark)
        return tie in self.web[1] and greatest_with(self.web, tie) is not None

    def may_leave(self, mark):
        """Whether some greatest pairing leaves the place alone."""
        place_of(self._state, mark)
        return mark in self.lots()[0]

    def would(self, deed):
        """The tuple of the size of the kept pairing behind the deed and its row."""
        if not _knows(self, deed):
            raise InvalidDeeds(0)
        state, row, _ = behind(self._state, deed)
        return (len(state[3]), row)

    def undo(self):
        """Take the last deed of the innermost span back and return it."""
        first = self._spans[-1] if self._spans else 0
        if len(self._past) == first:
            raise NothingToUndo("no deed that could be taken back")
        deed, _, ahead = self._past.pop()
        self._stand(ahead)
        return deed

    def begin(self):
        """Open a span."""
        self._spans.append(len(self._past))
        self.depth = len(self._spans)

    def keep(self):
        """End the innermost span and leave its deeds to the one around it."""
        self._end_span()

    def drop(self):
        """End the innermost span and take its deeds back."""
        first = self._end_span()
        while len(self._past) > first:
            self.undo()

    def twin(self):
        """An independent one of the same class, with equal start and deeds, and no span."""
        return _made_like(self, [])

    def copied(self):
        """An independent one with the spans, too."""
        return _made_like(self, self._spans)

    def act(self, deed):
        """Do the deed, told as in deeds, and return what its method returns."""
        ahead = self._state
        state, row, told = behind(ahead, deed)
        self._past.append((deed, row, ahead))
        self._stand(state)
        return told

    def _stand(self, state):
        """Take the state on, and show it in the fields."""
        self._state = state
        self.web, self.marks, self.next_mark, self.pairing, _ = state

    def _end_span(self):
        """End the innermost span; returns the number of deeds ahead of it."""
        if not self._spans:
            raise NoSpan("no span is open")
        first = self._spans.pop()
        self.depth = len(self._spans)
        return first


class PinnedLive(Live):
    """A live web in which pairs of the kept pairing may be pinned."""

    def pin(self, mark, other_mark):
        """The two, mates in the kept pairing, are pinned."""
        return self.act(("pin", mark, other_mark))

    def unpin(self, mark, other_mark):
        """The two are no longer pinned."""
        return self.act(("unpin", mark, other_mark))

    def pinned(self):
        """The list of the pinned pairs in the sequence of their pins."""
        return list(self._state[4])


def replay(web, deeds, *, pinned=False):
    """A live web of the web, pinned or not, with the deeds."""
    check_web(web)
    if not is_list(deeds):
        raise InvalidDeeds(0)
    live = PinnedLive(web) if pinned is True else Live(web)
    for at, deed in enumerate(deeds):
        if not _knows(live, deed):
            raise InvalidDeeds(at)
        try:
            live.act(deed)
        except PairError:
            raise InvalidDeeds(at) from None
    return live


def _knows(live, deed):
    """Whether any value has the form of a deed of the live web."""
    return fits_deed(isinstance(live, PinnedLive), deed)


def _made_like(live, spans):
    """A new one of the class of the live web, with its start and deeds, and these spans."""
    other = PinnedLive(live.start) if isinstance(live, PinnedLive) else Live(live.start)
    other._past = list(live._past)
    other._spans = list(spans)
    other.depth = len(spans)
    other._stand(live._state)
    return other
