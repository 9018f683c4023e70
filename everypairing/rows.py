"""Ties along rows of places.

Nothing here checks what it is passed.
"""


def tie_of(one, other):
    """The tie of two places."""
    return (min(one, other), max(one, other))


def ties_along(row):
    """The list of the ties of neighbours in the row."""
    return [tie_of(one, other) for one, other in zip(row, row[1:])]


def mates_in(n, pairing):
    """The list of the mates of n places, None for a place that is alone."""
    mates = [None] * n
    for x, y in pairing:
        mates[x] = y
        mates[y] = x
    return mates


def exchanged(pairing, ties):
    """The pairing with those of the ties put in that it lacks, and the others taken out."""
    kept = [tie for tie in pairing if tie not in ties]
    fresh = [tie for tie in ties if tie not in pairing]
    return tuple(sorted(kept + fresh))
