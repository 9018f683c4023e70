"""Whether values have the forms of the document, and the errors if they have not."""

from everypairing.errors import InvalidCount, InvalidLot, InvalidPairing, InvalidPlace
from everypairing.errors import InvalidTie, InvalidTies, InvalidWeb, TooMany

MOST_PLACES = 12


# Classes are compared by name because True and False, and what derives from
# the builtin classes, must not pass for integers, strings, tuples and lists.


def is_whole(value):
    """Whether the value is an integer."""
    return value.__class__.__name__ == "int"


def is_text(value):
    """Whether the value is a string."""
    return value.__class__.__name__ == "str"


def is_tuple(value):
    """Whether the value is a tuple."""
    return value.__class__.__name__ == "tuple"


def is_list(value):
    """Whether the value is a list."""
    return value.__class__.__name__ == "list"


def is_ascending(values):
    """Whether each value, of values that can be compared, is less than the next one."""
    return all([one < other for one, other in zip(values, values[1:])])


def fits_place(n, value):
    """Whether the value is one of n places."""
    return is_whole(value) and 0 <= value < n


def fits_ends(n, value):
    """Whether the value could be a tie of a web of n places."""
    # Asked for each tie of each web that is passed, so the classes are looked up here.
    if value.__class__.__name__ != "tuple" or len(value) != 2:
        return False
    x, y = value
    if x.__class__.__name__ != "int" or y.__class__.__name__ != "int":
        return False
    return 0 <= x < y < n


def fits_lot(n, value):
    """Whether the value is a lot of n places."""
    if not is_tuple(value):
        return False
    return all([fits_place(n, place) for place in value]) and is_ascending(value)


def fits_all_ends(n, value):
    """Whether the value is an ascending tuple of what could be ties of n places."""
    if not is_tuple(value):
        return False
    return all([fits_ends(n, tie) for tie in value]) and is_ascending(value)


def fits_web(value):
    """Whether the value is a web."""
    if not is_tuple(value) or len(value) != 2:
        return False
    n, ties = value
    return is_whole(n) and 1 <= n <= MOST_PLACES and fits_all_ends(n, ties)


def fits_tie(web, value):
    """Whether the value is a tie of the web."""
    n, ties = web
    return fits_ends(n, value) and value in ties


def fits_ties(web, value):
    """Whether the value is an ascending tuple of ties of the web."""
    n, ties = web
    return fits_all_ends(n, value) and all([tie in ties for tie in value])


def fits_pairing(web, value):
    """Whether the value is a pairing of the web."""
    if not fits_ties(web, value):
        return False
    ends = [place for tie in value for place in tie]
    return len(set(ends)) == len(ends)


def check_web(web):
    """Raise InvalidWeb unless it is a web."""
    if not fits_web(web):
        raise InvalidWeb("no web")


def check_pairing(web, pairing):
    """Raise InvalidPairing unless it is a pairing of the web."""
    if not fits_pairing(web, pairing):
        raise InvalidPairing("no pairing of the web")


def check_tie(web, tie):
    """Raise InvalidTie unless it is a tie of the web."""
    if not fits_tie(web, tie):
        raise InvalidTie("no tie of the web")


def check_ties(web, ties):
    """Raise InvalidTies unless it is an ascending tuple of ties of the web."""
    if not fits_ties(web, ties):
        raise InvalidTies("no ascending tuple of ties of the web")


def check_place(web, place):
    """Raise InvalidPlace unless it is a place of the web."""
    if not fits_place(web[0], place):
        raise InvalidPlace("no place of the web")


def check_other_place(web, place, other_place):
    """Raise InvalidPlace unless the other place is one of the web, unlike the first."""
    check_place(web, other_place)
    if other_place == place:
        raise InvalidPlace("the same place again")


def check_lot(web, lot):
    """Raise InvalidLot unless it is a lot of places of the web."""
    if not fits_lot(web[0], lot):
        raise InvalidLot("no lot of places of the web")


def check_number(number):
    """Raise InvalidCount unless it is an integer from 0 on."""
    if not is_whole(number) or number < 0:
        raise InvalidCount("no number from 0 on")


def check_at_most(n, count):
    """Raise TooMany unless there are at most so many places."""
    if n > count:
        raise TooMany(count)
