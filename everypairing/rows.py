"""Ties along rows of places, and the ears that rows can be.

Nothing but fits_odd_ear checks what it is passed.
"""

from everypairing.checks import fits_place, is_tuple


def tie_of(one, other):
    """The tie of two places."""
    return (min(one, other), max(one, other))


def ties_along(row):
    """The list of the ties of neighbours in the row."""
    return [tie_of(one, other) for one, other in zip(row, row[1:])]


def mates_in(n, pairing):
    """The list of the mates of n places, None for a place that is alone."""
    mates = [None] * n
    for x, y in pairing:
        mates[x] = y
        mates[y] = x
    return mates


def exchanged(pairing, ties):
    """The pairing with those of the ties put in that it lacks, and the others taken out."""
    kept = [tie for tie in pairing if tie not in ties]
    fresh = [tie for tie in ties if tie not in pairing]
    return tuple(sorted(kept + fresh))


def fits_odd_ear(web, there, value):
    """Whether any value is an odd ear of the lot of the places that are there."""
    n, ties = web
    if not is_tuple(value) or len(value) < 2 or len(value) % 2 == 1:
        return False
    if not all([fits_place(n, place) for place in value]):
        return False
    if not all([tie in ties for tie in ties_along(value)]):
        return False
    inside = list(value[1:-1])
    if len(set(inside)) < len(inside) or any([place in there for place in inside]):
        return False
    # Neighbours are tied, so the ends of an ear of one tie are unlike.
    return value[0] in there and value[-1] in there


def mate_ties(ear, start, stop):
    """The ties of the places with the indexes start and start + 1, .., stop - 1 and stop."""
    return [tie_of(ear[at], ear[at + 1]) for at in range(start, stop, 2)]


def goes_along(ear, pairing):
    """Whether the pairing pairs the inner places of the ear by its ties."""
    return all([tie in pairing for tie in mate_ties(ear, 1, len(ear) - 2)])
