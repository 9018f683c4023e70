"""What deeds make of a live web.

A *state* is a tuple (web, marks, next_mark, pairing, pins): the places of the web stand in the
sequence of their marks; the pairing, a greatest one, and the pins, pairs of it, are told by marks.
A deed is a tuple of its name and the values that are passed.
"""

from everypairing.checks import MOST_PLACES
from everypairing.checks import check_at_most, is_ascending, is_text, is_tuple, is_whole
from everypairing.errors import InvalidLot, InvalidPlace, Refused
from everypairing.finding import freed, greatest_mates, grown, longer_row_of, paired_whole
from everypairing.finding import spare_of, ties_of
from everypairing.joining import doubled, stretched, to_doubled, to_stretched
from everypairing.masks import all_places, mask_of, near_masks
from everypairing.rows import exchanged, mates_in, tie_of, ties_along
from everypairing.webs import inner, less_tie, with_tie


def first_state(web):
    """The state of a live web that begins with the web."""
    pairing = ties_of(greatest_mates(near_masks(web), all_places(web))[0])
    return (web, tuple(range(web[0])), web[0], pairing, ())


def fits_deed(pinned, value):
    """Whether any value is a deed's name, with pins perhaps, and as many values as it takes."""
    if not is_tuple(value) or value == () or not is_text(value[0]):
        return False
    if value[0] in PIN_DEEDS and not pinned:
        return False
    return value[0] in VALUES and len(value) == 1 + VALUES[value[0]]


def behind(state, deed):
    """The tuple (state, row, told) behind the deed; told is what its method returns."""
    action = ACTIONS[deed[0]]
    values = deed[1:]
    return action(state, *values)


def place_of(state, mark):
    """The place of the mark; InvalidPlace if it is not there."""
    marks = state[1]
    if not is_whole(mark) or mark not in marks:
        raise InvalidPlace("no mark that is there")
    return marks.index(mark)


def tie_between(state, mark, other_mark):
    """The tie that the places of two marks have or could have; InvalidPlace unless two are there."""
    place = place_of(state, mark)
    other = place_of(state, other_mark)
    if place == other:
        raise InvalidPlace("the same mark again")
    return tie_of(place, other)


def _places_of(state, marks):
    """The lot of the places of the marks; InvalidLot unless they are an ascending tuple of some."""
    there = state[1]
    if not is_tuple(marks) or not all([is_whole(mark) and mark in there for mark in marks]):
        raise InvalidLot("no tuple of marks that are there")
    if not is_ascending(marks):
        raise InvalidLot("the marks do not ascend")
    return tuple([there.index(mark) for mark in marks])


def _come(state, marks):
    """A place comes, tied with those of the marks."""
    web, there, next_mark, pairing, pins = state
    n, ties = web
    near = _places_of(state, marks)
    check_at_most(n + 1, MOST_PLACES)
    grown_web = (n + 1, tuple(sorted(ties + tuple([(place, n) for place in near]))))
    return _settled((grown_web, there + (next_mark,), next_mark + 1, pairing, pins), next_mark)


def _leave(state, mark):
    """The place of the mark goes."""
    web, there, next_mark, pairing, pins = state
    gone = place_of(state, mark)
    if web[0] == 1:
        raise Refused("no place would be left")
    left = inner(web, tuple([place for place in range(web[0]) if place != gone]))
    marks = tuple([other for other in there if other != mark])
    pairing = _without_mark(pairing, mark)
    return _settled((left, marks, next_mark, pairing, _without_mark(pins, mark)), None)


def _tie(state, mark, other_mark):
    """Two places are tied from now on."""
    web, there, next_mark, pairing, pins = state
    tie = tie_between(state, mark, other_mark)
    if tie in web[1]:
        raise Refused("they are tied")
    return _settled((with_tie(web, tie), there, next_mark, pairing, pins), None)


def _untie(state, mark, other_mark):
    """Two places are no longer tied."""
    web, there, next_mark, pairing, pins = state
    tie = _tie_there(state, mark, other_mark)
    gone = tie_of(mark, other_mark)
    pairing = _without_pair(pairing, gone)
    return _settled((less_tie(web, tie), there, next_mark, pairing, _without_pair(pins, gone)), None)


def _stretch(state, mark, other_mark):
    """Two new places come between two that are tied."""
    web, there, next_mark, pairing, pins = state
    tie = _tie_there(state, mark, other_mark)
    longer = stretched(web, tie)
    marks = there + (next_mark, next_mark + 1)
    pairing = _in_marks(marks, to_stretched(web, tie, _in_places(there, pairing)))
    pins = _without_pair(pins, tie_of(mark, other_mark))
    return _settled((longer, marks, next_mark + 2, pairing, pins), marks[-2:])


def _double(state, mark, marks):
    """Two new places come, and the first one takes over the ties of the place with the marks."""
    web, there, next_mark, pairing, pins = state
    place = place_of(state, mark)
    lot = _places_of(state, marks)
    larger = doubled(web, place, lot)
    fresh = there + (next_mark, next_mark + 1)
    pairing = _in_marks(fresh, to_doubled(web, place, lot, _in_places(there, pairing)))
    taken = [tie_of(mark, other) for other in marks]
    pins = [(_other_end(pair, mark), next_mark) if pair in taken else pair for pair in pins]
    return _settled((larger, fresh, next_mark + 2, pairing, tuple(pins)), fresh[-2:])


def _choose(state, mark, other_mark):
    """The pairing has the pair from now on."""
    web, there, next_mark, pairing, pins = state
    tie = _tie_there(state, mark, other_mark)
    if tie_of(mark, other_mark) in pairing:
        return (state, (), None)
    mates = mates_in(web[0], _in_places(there, pairing))
    return _exchanged(state, _row_to_pair(near_masks(web), _free_mask(state), mates, tie))


def _release(state, mark):
    """The pairing leaves the place alone."""
    web, there, next_mark, pairing, pins = state
    place = place_of(state, mark)
    mates = mates_in(web[0], _in_places(there, pairing))
    if mates[place] is None:
        return (state, (), None)
    ways = paired_whole(near_masks(web), _free_mask(state), mates)[1]
    return _exchanged(state, ways.get(place, None))


def _pin(state, mark, other_mark):
    """The pair, mates in the pairing, is pinned."""
    web, there, next_mark, pairing, pins = state
    tie_between(state, mark, other_mark)
    pair = tie_of(mark, other_mark)
    if pair not in pairing or pair in pins:
        raise Refused("no mates, or pinned already")
    return ((web, there, next_mark, pairing, pins + (pair,)), (), None)


def _unpin(state, mark, other_mark):
    """The pair is no longer pinned."""
    web, there, next_mark, pairing, pins = state
    tie_between(state, mark, other_mark)
    gone = tie_of(mark, other_mark)
    if gone not in pins:
        raise Refused("not pinned")
    return ((web, there, next_mark, pairing, _without_pair(pins, gone)), (), None)


def _settled(state, told):
    """The tuple (state, row, told) when the pairing is greatest again, with all pins."""
    web, there, next_mark, pairing, pins = state
    mates = mates_in(web[0], _in_places(there, pairing))
    row = longer_row_of(near_masks(web), _free_mask(state), mates)
    settled = _exchanged(state, () if row is None else row)
    _check_greatest(settled[0])
    return (settled[0], settled[1], told)


def _check_greatest(state):
    """Raise Refused unless the pairing is greatest; for the sake of the pins it may not be."""
    web, there, next_mark, pairing, pins = state
    if pins:
        everything = all_places(web)
        mates = greatest_mates(near_masks(web), everything)[0]
        if spare_of(everything, mates) < web[0] - 2 * len(pairing):
            raise Refused("no greatest pairing has all pinned pairs")


def _exchanged(state, row):
    """The tuple (state, row, None) with the row of places exchanged; Refused if it is None."""
    if row is None:
        raise Refused("no greatest pairing is so")
    web, there, next_mark, pairing, pins = state
    marks = tuple([there[place] for place in row])
    return ((web, there, next_mark, exchanged(pairing, ties_along(marks)), pins), marks, None)


def _row_to_pair(near, mask, mates, tie):
    """A row whose exchange brings the tie into a greatest pairing of the mask; None without one."""
    x, y = tie
    ends = mask_of(tie)
    if mask & ends != ends:
        return None
    if mates[x] is None:
        return (x, y, mates[y])
    if mates[y] is None:
        return (y, x, mates[x])
    # Without the two places their mates are alone, and a longer row must begin with one of them.
    rest = mask - ends
    left = freed(mates, tie)
    row = grown(near, rest, left, mates[x])[0]
    if row is None:
        row = grown(near, rest, left, mates[y])[0]
        return None if row is None else (mates[x], x, y) + row
    # It may end at the other mate, and is a round then.
    return (mates[y], y, x) + row


def _tie_there(state, mark, other_mark):
    """The tie of the places of two marks; Refused if there is none."""
    tie = tie_between(state, mark, other_mark)
    if tie not in state[0][1]:
        raise Refused("they are not tied")
    return tie


def _free_mask(state):
    """The mask of the places that are in no pinned pair."""
    web, there, next_mark, pairing, pins = state
    return all_places(web) - mask_of([there.index(mark) for pair in pins for mark in pair])


def _without_mark(pairs, mark):
    """The tuple of the pairs that do not have the mark."""
    return tuple([pair for pair in pairs if mark not in pair])


def _without_pair(pairs, gone):
    """The tuple of the other pairs."""
    return tuple([pair for pair in pairs if pair != gone])


def _other_end(pair, mark):
    """The other mark of the pair."""
    return pair[1] if pair[0] == mark else pair[0]


def _in_places(there, pairs):
    """The tuple of the pairs, told by places."""
    return tuple([(there.index(one), there.index(other)) for one, other in pairs])


def _in_marks(there, ties):
    """The tuple of the ties, told by marks."""
    return tuple([(there[x], there[y]) for x, y in ties])


PIN_DEEDS = ("pin", "unpin")
# How many values each deed takes.
VALUES = {
    "come": 1, "leave": 1, "tie": 2, "untie": 2, "stretch": 2, "double": 2, "choose": 2,
    "release": 1, "pin": 2, "unpin": 2,
}
ACTIONS = {
    "come": _come, "leave": _leave, "tie": _tie, "untie": _untie, "stretch": _stretch,
    "double": _double, "choose": _choose, "release": _release, "pin": _pin, "unpin": _unpin,
}
