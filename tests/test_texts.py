import unittest

from tests import plain
from everypairing.errors import InvalidText
from everypairing.webs import is_web, web_text, web_told

SIGNS = "abcdlmA:, ;0-z"


def text_of(web):
    letters = "abcdefghijkl"
    return letters[web[0] - 1] + ":" + ",".join(letters[x] + letters[y] for x, y in web[1])


def all_texts(most):
    """The texts of all webs of up to so many places."""
    return [text_of(web) for n in range(1, most + 1) for web in plain.every_web(n)]


def starts_of(texts):
    return {text[:end] for text in texts for end in range(len(text) + 1)}


def right_start(text):
    """Whether the text of some web begins so, for any number of places."""
    letters = "abcdefghijkl"
    if text == "":
        return True
    if text[0] not in letters:
        return False
    n = letters.index(text[0]) + 1
    if text[1:] in ("", ":"):
        return True
    if text[1] != ":":
        return False
    words = text[2:].split(",")
    ties = [letters[x] + letters[y] for x, y in plain.possible_ties(n)]
    # The last word may be cut; each word must leave room for those that follow.
    last = ""
    for word in words[:-1]:
        if word not in ties or word <= last:
            return False
        last = word
    return any(tie.startswith(words[-1]) and tie > last for tie in ties)


def index_of(text):
    return max(end for end in range(len(text) + 1) if right_start(text[:end]))


class Texts(unittest.TestCase):
    def refused_at(self, text):
        with self.assertRaises(InvalidText, msg=text) as caught:
            web_told(text)
        return caught.exception.index

    def check(self, text):
        """The text is told if it is that of a web; otherwise refused at the right index."""
        try:
            web = web_told(text)
        except InvalidText as error:
            self.assertEqual(error.index, index_of(text), text)
            return
        self.assertIs(is_web(web), True)
        self.assertEqual(text_of(web), text)

    def test_there_and_back(self):
        for web in plain.small_webs() + plain.large_webs():
            self.assertEqual(web_text(web), text_of(web))
            self.assertEqual(web_told(web_text(web)), web)
        for n in range(1, 13):
            self.assertEqual(web_told(web_text((n, ()))), (n, ()))
            self.assertEqual(web_told(web_text(plain.all_tied(n))), plain.all_tied(n))

    def test_the_second_reckoning_of_the_index(self):
        starts = starts_of(all_texts(4))
        for text in sorted(starts):
            self.assertTrue(right_start(text))
            for sign in "abcd:,":
                if text[:1] in ("a", "b", "c", "d"):
                    self.assertEqual(right_start(text + sign), text + sign in starts, text + sign)

    def test_cut_exchanged_put_in_left_out(self):
        texts = all_texts(3) + all_texts(4)[::7]
        texts += [text_of(web) for web in plain.chance_webs(7, 6) + plain.chance_webs(12, 2)]
        texts += ["l:", "a:", "l:kl", "l:ab,kl"]
        for text in texts:
            for at in range(len(text) + 1):
                self.check(text[:at])
                self.check(text[:at] + text[at + 1:])
                for sign in SIGNS:
                    self.check(text[:at] + sign + text[at:])
                    self.check(text[:at] + sign + text[at + 1:])

    def test_short_texts(self):
        for text in ["", "a", "a:", "a:a", "a:,", "b:a", "b:b", "b:ab,", "b:ab,a", "b:ab ", "m:",
                     ":", "ab", "c:ac,ab", "c:ba", "c:aa", "c:ab,,", "c:ab;bc", "c:bc,", "c:bc,b",
                     "C:ab", "c:Ab", "c:ab\n", "c :ab", " c:ab", "c:ab,ac,bc,", "l:al,kl,", "l:l"]:
            self.check(text)

    def test_the_index_itself(self):
        for text, index in [("", 0), ("x", 0), ("d", 1), ("dd", 1), ("d:", None), ("d:d", 2),
                            ("d:a", 3), ("d:aa", 3), ("d:ab,", 5), ("d:ab,a", 6), ("d:ab,ab", 6),
                            ("d:ab,cd,", 7), ("d:ab,cdx", 7), ("d:cd,", 4), ("d:ad,ac", 5),
                            ("d:ad,ab", 5), ("d:abac", 4), ("a:b", 2), ("e:ab,de;", 7)]:
            if index is None:
                self.assertEqual(web_told(text), (4, ()))
            else:
                self.assertEqual(self.refused_at(text), index, text)

    def test_no_strings(self):
        for value in (None, True, False, 0, 7, (), [], ("d:ab",), ["d:ab"], b"d:ab", (4, ())):
            self.assertEqual(self.refused_at(value), 0)

    def test_long_texts(self):
        self.assertEqual(self.refused_at("d:" * 9000), 2)
        self.assertEqual(self.refused_at("l:ab" + ",ac" * 6000), 9)
        self.assertEqual(self.refused_at("," * 20000), 0)


if __name__ == "__main__":
    unittest.main()
