"""How two sets lie to one another."""

from momentsets.limits import LATEST
from momentsets.moments import both, either, less
from momentsets.refusals import NothingThere


def relate(p, q):
    """The sum of what holds: 1 for p alone, 2 for q alone, 4 for both, 8 for neither."""
    return sum([
        1 if less(p, q) != [] else 0,
        2 if less(q, p) != [] else 0,
        4 if both(p, q) != [] else 0,
        8 if either(p, q) != [0] else 0,
    ])


def end_of(piece):
    """The end of a piece; of one that never ends, a number above every bound."""
    return piece[1] if len(piece) == 2 else LATEST + 1


def by_order(x, y, if_less, if_equal, if_greater):
    if x < y:
        return if_less
    if x == y:
        return if_equal
    return if_greater


def number_of_lie(a, b, c, d):
    """The number that tells how the piece from a to b lies to that from c to d."""
    if b < c:
        return 1
    if b == c:
        return 2
    if d == a:
        return 12
    if d < a:
        return 13
    # From here on the two share a moment, so their begins and ends alone decide.
    if a < c:
        return by_order(b, d, 3, 8, 9)
    if a == c:
        return by_order(b, d, 4, 7, 10)
    return by_order(b, d, 5, 6, 11)


def allen(p, q):
    if len(p) not in (1, 2) or len(q) not in (1, 2):
        raise NothingThere()
    return number_of_lie(p[0], end_of(p), q[0], end_of(q))
