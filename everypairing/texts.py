"""Letters for places, and what texts tell by them.

Everything that is told here from a text raises InvalidText with the greatest index up to which
the text could still be right.
"""

from everypairing.errors import InvalidText

LETTERS = "abcdefghijkl"


def ties_text(ties):
    """The ties by the letters of their ends, with commas between neighbours."""
    return ",".join([LETTERS[x] + LETTERS[y] for x, y in ties])


def web_part_text(web):
    """The text of a web."""
    return LETTERS[web[0] - 1] + ":" + ties_text(web[1])


def told_web(text, stop):
    """The tuple (web, at): the web that the text begins with, up to the sign stop at the index at.

    The sign "" stands for the end of the text.
    """
    if text == "" or text[0] not in LETTERS:
        raise InvalidText(0)
    if text[1:2] != ":":
        raise InvalidText(1)
    n = LETTERS.index(text[0]) + 1
    ties, at = told_ties(text, 2, n, stop)
    return ((n, ties), at)


def told_ties(text, start, n, stop):
    """The tuple (ties, at): what ties of n places the text tells from start up to the sign stop."""
    left = possible_ties(n)
    ties = []
    at = start
    while text[at:at + 1] != stop:
        # Only ties behind the last one may follow, so a comma with none left is wrong itself.
        if ties:
            if text[at:at + 1] != "," or not left:
                raise InvalidText(at)
            at += 1
        tie = _told_tie(text, at, left)
        ties.append(tie)
        left = [other for other in left if other > tie]
        at += 2
    return (tuple(ties), at)


def told_lot(text, start, n):
    """The lot of places, out of n, whose letters the text has from start to its end."""
    lot = []
    for at in range(start, len(text)):
        left = LETTERS[lot[-1] + 1 if lot else 0:n]
        if text[at] not in left:
            raise InvalidText(at)
        lot.append(LETTERS.index(text[at]))
    return tuple(lot)


def possible_ties(n):
    """The ascending list of all ties that a web of n places could have."""
    return [(x, y) for x in range(n) for y in range(x + 1, n)]


def _told_tie(text, at, left):
    """The tie that the text tells at the index, out of those left."""
    fitting = left
    for end in (0, 1):
        letter = text[at + end:at + end + 1]
        fitting = [tie for tie in fitting if LETTERS[tie[end]] == letter]
        if not fitting:
            raise InvalidText(at + end)
    return fitting[0]
