import random
import unittest

from tests import plain
from tests.test_texts import right_start, text_of
from everypairing.errors import InvalidLot, InvalidPairing, InvalidText, InvalidWeb, NotMeeting
from everypairing.greatest import greatest_pairing, spare_lot
from everypairing.paper_texts import paper_text, paper_told

LETTERS = "abcdefghijkl"


def is_whole(part):
    """Whether a start of a web's text is one of a web."""
    return right_start(part) and part[1:2] == ":" and len(part.split(",")[-1].split(":")[-1]) in (0, 2) \
        and not part.endswith(",")


def form_start(text):
    """Whether some form begins with the text."""
    parts = text.split(";")
    if len(parts) == 1:
        return right_start(text)
    if len(parts) > 3 or not is_whole(parts[0]):
        return False
    first = parts[0][0] + ":" + parts[1]
    if len(parts) == 2:
        return right_start(first)
    letters = LETTERS[:LETTERS.index(text[0]) + 1]
    lot = parts[2]
    return is_whole(first) and list(lot) == sorted(set(lot)) and set(lot) <= set(letters)


def is_form(text):
    return text.count(";") == 2 and form_start(text)


def places(word):
    return tuple(LETTERS.index(letter) for letter in word)


def words_of(part):
    return [places(word) for word in part.split(",")] if part else []


def answer(text):
    """What paper_told must answer: the tuple (error, its field) or (None, the paper)."""
    if not is_form(text):
        return "InvalidText", max(end for end in range(len(text) + 1) if form_start(text[:end]))
    first, second, third = text.split(";")
    web = (LETTERS.index(text[0]) + 1, tuple(words_of(first[2:])))
    met = set()
    for number, tie in enumerate(words_of(second)):
        if tie not in web[1] or met & set(tie):
            return "InvalidText", len(first) + 1 + 3 * number
        met |= set(tie)
    pairing, lot = tuple(words_of(second)), places(third)
    count = len(plain.alone(web, pairing)) - plain.excess(web, lot)
    return ("NotMeeting", count) if count else (None, (web, pairing, lot))


def paper_of(web, pairing, lot):
    ties = ",".join(LETTERS[x] + LETTERS[y] for x, y in pairing)
    return text_of(web) + ";" + ties + ";" + "".join(LETTERS[x] for x in lot)


def told(text):
    try:
        return None, paper_told(text)
    except InvalidText as error:
        return "InvalidText", error.index
    except NotMeeting as error:
        return "NotMeeting", error.count


class PaperTexts(unittest.TestCase):
    def papers(self, webs):
        found = []
        for web in webs:
            for lot in plain.barriers(web):
                for pairing in plain.greatest(web):
                    found.append((web, pairing, lot))
        return found

    def test_there_and_back(self):
        for web, pairing, lot in self.papers(plain.small_webs(many=6)):
            text = paper_text(web, pairing, lot)
            self.assertEqual(text, paper_of(web, pairing, lot))
            self.assertEqual(paper_told(text), (web, pairing, lot))
        for web in plain.large_webs() + [(12, ()), (1, ())]:
            paper = (web, greatest_pairing(web), spare_lot(web))
            self.assertEqual(paper_text(*paper), paper_of(*paper))
            self.assertEqual(paper_told(paper_text(*paper)), paper)

    def test_those_that_do_not_meet(self):
        for web in plain.small_webs(many=4):
            if web[0] > 5:
                continue
            for pairing in plain.every_pairing(web):
                for lot in plain.lots_in_order(web[0]):
                    count = len(plain.alone(web, pairing)) - plain.excess(web, lot)
                    text = paper_of(web, pairing, lot)
                    if count == 0:
                        self.assertEqual(paper_text(web, pairing, lot), text)
                        continue
                    self.assertGreater(count, 0)
                    with self.assertRaises(NotMeeting) as caught:
                        paper_text(web, pairing, lot)
                    self.assertEqual(caught.exception.count, count)
                    self.assertEqual(told(text), ("NotMeeting", count))

    def test_bent_at_each_spot(self):
        source = random.Random(1)
        papers = self.papers(plain.small_webs(many=2))
        texts = [paper_of(*paper) for paper in source.sample(papers, 14)]
        for web in [plain.line(9)]:
            texts.append(paper_of(web, greatest_pairing(web), spare_lot(web)))
        texts += ["a:;;", "a:;;a", "b:ab;ab;", "l:;;", "d:ab,bc,cd;ab,cd;ac"]
        for text in texts:
            for at in range(len(text) + 1):
                self.check(text[:at])
                self.check(text[:at] + text[at + 1:])
                for sign in "abdl:,; -":
                    self.check(text[:at] + sign + text[at:])
                    self.check(text[:at] + sign + text[at + 1:])

    def check(self, text):
        self.assertEqual(told(text), answer(text), text)

    def test_the_second_reckoning_of_the_index(self):
        # Against all forms of webs of up to three places.
        forms = []
        for n in (1, 2, 3):
            for web in plain.every_web(n):
                for bits in range(1 << len(plain.possible_ties(n))):
                    ties = [tie for at, tie in enumerate(plain.possible_ties(n)) if bits >> at & 1]
                    for lot in plain.lots_in_order(n):
                        forms.append(paper_of(web, ties, lot))
        starts = {text[:end] for text in forms for end in range(len(text) + 1)}
        for text in starts:
            self.assertTrue(form_start(text), text)
            self.assertEqual(is_form(text), text in forms)
            for sign in "abc:,;d":
                if text:
                    self.assertEqual(form_start(text + sign), text + sign in starts, text + sign)
        for text in forms[::7]:
            self.check(text)

    def test_ties_of_the_second_part(self):
        for text, index in [("d:ab,ac,ad;ab,ac;", 14), ("d:ab,ac,ad;ab,aa;", 15), ("d:ab,ac,ad;bc;", 11),
                            ("d:ab,ac,ad;ab,cd;", 14), ("d:ab,cd;ab,ac,cd;", 11), ("d:ab;cd,ab;", 7),
                            ("d:ab;ab;ba", 9), ("d:ab;ab;aa", 9), ("d:ab;ab;ae", 9), ("d:ab;ab;a;", 9),
                            ("d:ab;ab,;", 8), ("d:ab;ab", 7), ("d:ab", 4), ("d:ab;", 5), ("d:ab;;", None),
                            ("d:ab,cd;bc,ad;", 11), ("d:ab,;;", 5), ("a:;a;", 3), ("a:;;b", 4),
                            ("b:ab;ab,;", 7)]:
            if index is not None:
                self.assertEqual(told(text), ("InvalidText", index), text)
            self.check(text)

    def test_no_strings_and_long_ones(self):
        for value in (None, True, False, 0, 7, (), [], ("a:;;",), ["a:;;"], b"a:;;", {}):
            self.assertEqual(told(value), ("InvalidText", 0))
        self.assertEqual(told(""), ("InvalidText", 0))
        self.assertEqual(told("l:;;" + "a" * 19000), ("InvalidText", 5))
        self.assertEqual(told("l:;ab" + ",ab" * 6000 + ";"), ("InvalidText", 7))

    def test_errors_in_their_sequence(self):
        star = plain.stars(4)
        for error, arguments in [
            (InvalidWeb, [(0, ()), None, None]), (InvalidPairing, [star, ((1, 2),), (9,)]),
            (InvalidLot, [star, (), (9,)]), (InvalidLot, [star, (), (1, 0)]),
            (NotMeeting, [star, (), ()]), (InvalidPairing, [star, [(0, 1)], (0,)]),
        ]:
            with self.assertRaises(error):
                paper_text(*arguments)
        with self.assertRaises(NotMeeting) as caught:
            paper_text(star, (), (1, 2, 3))
        self.assertEqual(caught.exception.count, 4 - (1 - 3))


if __name__ == "__main__":
    unittest.main()
