"""What is asked of one set: its moments and its pieces, found and counted."""

from momentsets.moments import both, is_endless, less, pieces_of
from momentsets.refusals import EndlessSet, NothingThere


def has(p, t):
    passed = [bound for bound in p if bound <= t]
    return 1 if len(passed) % 2 == 1 else 0


def first(p):
    if p == []:
        raise NothingThere()
    return p[0]


def last(p):
    if p == []:
        raise NothingThere()
    if is_endless(p):
        raise EndlessSet()
    return p[-1] - 1


def size(p):
    if is_endless(p):
        raise EndlessSet()
    return sum([piece[1] - piece[0] for piece in pieces_of(p)])


def first_from(p, t):
    """The first moment of p that is t or later."""
    return first(both(p, [t]))


def last_up_to(p, t):
    """The last moment of p that is t or earlier."""
    return last(less(p, [t + 1]))


def nth(p, n):
    """The moment of p that has just n moments of p before it."""
    left = n
    for piece in pieces_of(p):
        if is_endless(piece) or left < size(piece):
            return piece[0] + left
        left = left - size(piece)
    raise NothingThere()


def rank(p, t):
    """How many moments of p are earlier than t."""
    return size(less(p, [t]))


def count_of_pieces(p):
    """How many pieces p has, and whether it is endless."""
    return [len(pieces_of(p)), 1 if is_endless(p) else 0]


def piece_at(p, i):
    """1 and the begin of a piece that never ends; 0, the begin and the end of any other."""
    pieces = pieces_of(p)
    if i >= len(pieces):
        raise NothingThere()
    piece = pieces[i]
    return [1 if is_endless(piece) else 0] + piece
