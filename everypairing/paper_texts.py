"""Texts of papers: a web with a pairing and a lot that show each other to be right."""

from everypairing.checks import check_lot, check_pairing, check_web, is_text
from everypairing.errors import InvalidText, NotMeeting
from everypairing.greatest import excess
from everypairing.texts import LETTERS, told_lot, told_ties, told_web, ties_text
from everypairing.webs import alone, web_text


def paper_text(web, pairing, lot):
    """The text of the paper."""
    check_web(web)
    check_pairing(web, pairing)
    check_lot(web, lot)
    _check_meeting(web, pairing, lot)
    letters = "".join([LETTERS[place] for place in lot])
    return ";".join([web_text(web), ties_text(pairing), letters])


def paper_told(text):
    """The tuple (web, pairing, lot) of the paper with this text."""
    if not is_text(text):
        raise InvalidText(0)
    web, at = told_web(text, ";")
    first = at + 1
    ties, at = told_ties(text, first, web[0], ";")
    lot = told_lot(text, at + 1, web[0])
    met = []
    for number, tie in enumerate(ties):
        if tie not in web[1] or tie[0] in met or tie[1] in met:
            # Each tie ahead of it takes two letters and a comma.
            raise InvalidText(first + 3 * number)
        met.extend(tie)
    _check_meeting(web, ties, lot)
    return (web, ties, lot)


def _check_meeting(web, pairing, lot):
    """Raise NotMeeting unless as many places are alone as the excess of the lot."""
    count = len(alone(web, pairing)) - excess(web, lot)
    if count != 0:
        raise NotMeeting(count)
