"""Whether values have the forms of the document, and the errors if they have not."""

from math import gcd

from everypairing.errors import InvalidCount, InvalidLot, InvalidPairing, InvalidPlace
from everypairing.errors import InvalidShares, InvalidTie, InvalidTies, InvalidWeb
from everypairing.errors import InvalidWeights, TooMany
from everypairing.ratios import ratio_sum

MOST_PLACES = 12
# Some answers are told for webs of so many places alone.
MOST_LISTED = 8
HIGHEST_WORTH = 1000
HIGHEST_WEIGHT = 1000000


# Classes are compared by name because True and False, and what derives from
# the builtin classes, must not pass for integers, strings, tuples and lists.


def is_whole(value):
    """Whether the value is an integer."""
    return value.__class__.__name__ == "int"


def is_text(value):
    """Whether the value is a string."""
    return value.__class__.__name__ == "str"


def is_tuple(value):
    """Whether the value is a tuple."""
    return value.__class__.__name__ == "tuple"


def is_list(value):
    """Whether the value is a list."""
    return value.__class__.__name__ == "list"


def is_ascending(values):
    """Whether each value, of values that can be compared, is less than the next one."""
    return all([one < other for one, other in zip(values, values[1:])])


def fits_place(n, value):
    """Whether the value is one of n places."""
    return is_whole(value) and 0 <= value < n


def fits_ends(n, value):
    """Whether the value could be a tie of a web of n places."""
    # Asked for each tie of each web that is passed, so the classes are looked up here.
    if value.__class__.__name__ != "tuple" or len(value) != 2:
        return False
    x, y = value
    if x.__class__.__name__ != "int" or y.__class__.__name__ != "int":
        return False
    return 0 <= x < y < n


def fits_lot(n, value):
    """Whether the value is a lot of n places."""
    if not is_tuple(value):
        return False
    return all([fits_place(n, place) for place in value]) and is_ascending(value)


def fits_all_ends(n, value):
    """Whether the value is an ascending tuple of what could be ties of n places."""
    if not is_tuple(value):
        return False
    return all([fits_ends(n, tie) for tie in value]) and is_ascending(value)


def fits_web(value):
    """Whether the value is a web."""
    if not is_tuple(value) or len(value) != 2:
        return False
    n, ties = value
    return is_whole(n) and 1 <= n <= MOST_PLACES and fits_all_ends(n, ties)


def fits_tie(web, value):
    """Whether the value is a tie of the web."""
    n, ties = web
    return fits_ends(n, value) and value in ties


def fits_ties(web, value):
    """Whether the value is an ascending tuple of ties of the web."""
    n, ties = web
    return fits_all_ends(n, value) and all([tie in ties for tie in value])


def fits_pairing(web, value):
    """Whether the value is a pairing of the web."""
    if not fits_ties(web, value):
        return False
    ends = [place for tie in value for place in tie]
    return len(set(ends)) == len(ends)


def fits_fraction(value):
    """Whether the value is a fraction from 0 on, in lowest terms."""
    if not is_tuple(value) or len(value) != 2:
        return False
    top, bottom = value
    if not is_whole(top) or not is_whole(bottom):
        return False
    return top >= 0 and bottom >= 1 and gcd(top, bottom) == 1


def check_web(web):
    """Raise InvalidWeb unless it is a web."""
    if not fits_web(web):
        raise InvalidWeb("no web")


def check_pairing(web, pairing):
    """Raise InvalidPairing unless it is a pairing of the web."""
    if not fits_pairing(web, pairing):
        raise InvalidPairing("no pairing of the web")


def check_tie(web, tie):
    """Raise InvalidTie unless it is a tie of the web."""
    if not fits_tie(web, tie):
        raise InvalidTie("no tie of the web")


def check_ties(web, ties):
    """Raise InvalidTies unless it is an ascending tuple of ties of the web."""
    if not fits_ties(web, ties):
        raise InvalidTies("no ascending tuple of ties of the web")


def check_place(web, place):
    """Raise InvalidPlace unless it is a place of the web."""
    if not fits_place(web[0], place):
        raise InvalidPlace("no place of the web")


def check_other_place(web, place, other_place):
    """Raise InvalidPlace unless the other place is one of the web, unlike the first."""
    check_place(web, other_place)
    if other_place == place:
        raise InvalidPlace("the same place again")


def check_lot(web, lot):
    """Raise InvalidLot unless it is a lot of places of the web."""
    if not fits_lot(web[0], lot):
        raise InvalidLot("no lot of places of the web")


def check_number(number):
    """Raise InvalidCount unless it is an integer from 0 on."""
    if not is_whole(number) or number < 0:
        raise InvalidCount("no number from 0 on")


def check_count(web, count):
    """Raise InvalidCount unless so many ties could be a pairing of the places of the web."""
    check_number(count)
    if count > web[0] // 2:
        raise InvalidCount("too many ties for the places")


def check_weights(web, weights):
    """Raise InvalidWeights unless they are integers from 0 to 1,000,000, one for each tie."""
    _check_numbers(len(web[1]), weights)


def check_worths(web, worths):
    """Raise InvalidWeights unless they are integers from 0 to 1,000,000, one for each place."""
    _check_numbers(web[0], worths)


def _check_numbers(count, numbers):
    """Raise InvalidWeights unless they are a tuple of so many integers from 0 to 1,000,000."""
    if not is_tuple(numbers) or len(numbers) != count:
        raise InvalidWeights("not as many weights as are wanted")
    if not all([is_whole(number) and 0 <= number <= HIGHEST_WEIGHT for number in numbers]):
        raise InvalidWeights("not all weights are integers from 0 to 1,000,000")


def check_worth(worth):
    """Raise InvalidWeights unless it is a fraction whose top and bottom are from 1 to 1,000."""
    if not fits_fraction(worth) or not 1 <= worth[0] <= HIGHEST_WORTH or worth[1] > HIGHEST_WORTH:
        raise InvalidWeights("no fraction of a top and a bottom from 1 to 1,000")


def check_shares(web, shares):
    """Raise InvalidShares unless they are fractions of the ties, with the sum 1 at each place."""
    n, ties = web
    if not is_tuple(shares) or len(shares) != len(ties):
        raise InvalidShares("not as many shares as ties")
    if not all([fits_fraction(share) for share in shares]):
        raise InvalidShares("not all are fractions")
    for place in range(n):
        at_place = [share for tie, share in zip(ties, shares) if place in tie]
        if ratio_sum(at_place) != (1, 1):
            raise InvalidShares("the sum at some place is not 1")


def check_at_most(n, count):
    """Raise TooMany unless there are at most so many places."""
    if n > count:
        raise TooMany(count)
