"""A second, plain reckoning of live webs, in marks alone: what a deed must do, or which error."""

from functools import lru_cache

from tests import plain

@lru_cache(maxsize=20000)
def greatest_of(web):
    """All greatest pairings, and their size."""
    found = plain.greatest(web)
    return found, len(found[0])


def whole(value):
    return type(value) is int


def pair_of(one, other):
    return (min(one, other), max(one, other))


class Model:
    """marks, ties (a set of pairs of marks), the next mark, the kept pairing and the pins."""

    def __init__(self, web, pairing):
        self.marks = list(range(web[0]))
        self.ties = set(web[1])
        self.next = web[0]
        self.kept = set(pairing)
        self.pins = []

    def copy(self):
        other = Model((0, ()), ())
        other.marks = list(self.marks)
        other.ties = set(self.ties)
        other.next = self.next
        other.kept = set(self.kept)
        other.pins = list(self.pins)
        return other

    def web(self):
        at = {mark: place for place, mark in enumerate(self.marks)}
        return (len(self.marks), tuple(sorted((at[x], at[y]) for x, y in self.ties)))

    def greatest(self):
        """The greatest pairings in marks."""
        return [{(self.marks[x], self.marks[y]) for x, y in pairing}
                for pairing in greatest_of(self.web())[0]]

    def fitting(self):
        """Those that have all pins."""
        return [pairing for pairing in self.greatest() if set(self.pins) <= pairing]

    def alone(self, pairing):
        return [mark for mark in self.marks if not any(mark in pair for pair in pairing)]

    def mark_error(self, *marks):
        if not all(whole(mark) and mark in self.marks for mark in marks):
            return "InvalidPlace"
        return "InvalidPlace" if len(set(marks)) < len(marks) else None

    def marks_error(self, marks):
        right = type(marks) is tuple and all(whole(mark) and mark in self.marks for mark in marks)
        return None if right and list(marks) == sorted(set(marks)) else "InvalidLot"

    def error(self, deed):
        """The error of the deed, but for those of pins, choose and release; None without one."""
        name, values = deed[0], deed[1:]
        if name == "come":
            return self.marks_error(values[0]) or ("TooMany" if len(self.marks) == 12 else None)
        if name in ("leave", "release"):
            refused = name == "leave" and len(self.marks) == 1
            return self.mark_error(values[0]) or ("Refused" if refused else None)
        if name == "double":
            return self.double_error(values[0], values[1])
        wrong = self.mark_error(values[0]) or self.mark_error(*values)
        if wrong:
            return wrong
        pair = pair_of(*values)
        refused = {
            "tie": pair in self.ties, "untie": pair not in self.ties,
            "stretch": pair not in self.ties, "choose": pair not in self.ties,
            "pin": pair not in self.kept or pair in self.pins, "unpin": pair not in self.pins,
        }[name]
        if refused:
            return "Refused"
        return "TooMany" if name == "stretch" and len(self.marks) > 10 else None

    def double_error(self, mark, marks):
        wrong = self.mark_error(mark) or self.marks_error(marks)
        if wrong:
            return wrong
        if not all(pair_of(mark, other) in self.ties for other in marks):
            return "InvalidLot"
        return "TooMany" if len(self.marks) > 10 else None

    def carry(self, deed):
        """Do the deed to a web with no error, and carry the kept pairing and the pins along.

        Returns what the deed's method returns.
        """
        name, values = deed[0], deed[1:]
        told = None
        if name == "come":
            told = self.fresh()
            self.ties |= {(mark, told) for mark in values[0]}
        elif name == "leave":
            self.marks.remove(values[0])
            self.ties = {pair for pair in self.ties if values[0] not in pair}
        elif name == "tie":
            self.ties.add(pair_of(*values))
        elif name == "untie":
            self.ties.discard(pair_of(*values))
        elif name == "stretch":
            told = self.stretch(pair_of(*values))
        elif name == "double":
            told = self.double(*values)
        elif name == "pin":
            self.pins.append(pair_of(*values))
        elif name == "unpin":
            self.pins.remove(pair_of(*values))
        self.kept &= self.ties
        self.pins = [pair for pair in self.pins if pair in self.ties]
        return told

    def fresh(self):
        self.marks.append(self.next)
        self.next += 1
        return self.next - 1

    def stretch(self, pair):
        a, b = self.fresh(), self.fresh()
        self.ties -= {pair}
        self.ties |= {(pair[0], a), (pair[1], b), (a, b)}
        self.kept |= {(pair[0], a), (pair[1], b)} if pair in self.kept else {(a, b)}
        return a, b

    def double(self, mark, marks):
        a, b = self.fresh(), self.fresh()
        led = False
        for other in marks:
            pair = pair_of(mark, other)
            self.ties -= {pair}
            self.ties |= {(other, a)}
            if pair in self.kept:
                self.kept |= {(other, a), (mark, b)}
                led = True
            self.pins = [(other, a) if pin == pair else pin for pin in self.pins]
        self.ties |= {(mark, b), (a, b)}
        if not led:
            self.kept |= {(a, b)}
        return a, b

    def wanted(self, deed):
        """The pairings that may be kept behind the deed, which has been carried."""
        found = self.fitting()
        if deed[0] == "choose":
            return [pairing for pairing in found if pair_of(*deed[1:]) in pairing]
        if deed[0] == "release":
            return [pairing for pairing in found if deed[1] in self.alone(pairing)]
        return found

    def behind(self, deed):
        """The tuple (error, model, told, wanted): the error, or None and what comes behind it."""
        wrong = self.error(deed)
        if wrong:
            return wrong, None, None, None
        other = self.copy()
        told = other.carry(deed)
        wanted = other.wanted(deed)
        if not wanted:
            return "Refused", None, None, None
        return None, other, told, wanted

    def exchange(self, row):
        """The kept pairing with the row exchanged; None if the row is none."""
        if row == ():
            return set(self.kept)
        pairs = [pair_of(one, other) for one, other in zip(row, row[1:])]
        inner = row[:-1] if row[0] == row[-1] else row
        if len(row) < 2 or len(set(inner)) < len(inner) or not set(pairs) <= self.ties:
            return None
        turns = [pair in self.kept for pair in pairs]
        if any(one == other for one, other in zip(turns, turns[1:])):
            return None
        return (self.kept - set(pairs)) | {pair for pair, has in zip(pairs, turns) if not has}
