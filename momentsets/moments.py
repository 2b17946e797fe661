"""Sets of moments as lists of bounds.

A set is in from its first bound on, out from the second on, in again from the
third on, and so on. Every function here gives back a new list and changes none,
and none of them looks at the limits: what is put into a register is held against
these where it is put.
"""


def pieces_of(p):
    """The pieces of p in order, each by its bounds: one if it never ends, else two."""
    return [p[place:place + 2] for place in range(0, len(p), 2)]


def is_endless(p):
    return len(p) % 2 == 1


def combine(p, q, rule):
    """The moments for which rule is true of being in p and of being in q.

    The rule must be false of what is in neither: that is how it is before all bounds.
    """
    bounds = []
    in_p = False
    in_q = False
    inside = False
    for moment in sorted(set(p + q)):
        if moment in p:
            in_p = not in_p
        if moment in q:
            in_q = not in_q
        if rule(in_p, in_q) != inside:
            inside = not inside
            bounds.append(moment)
    return bounds


def either(p, q):
    return combine(p, q, lambda in_p, in_q: in_p or in_q)


def both(p, q):
    return combine(p, q, lambda in_p, in_q: in_p and in_q)


def less(p, q):
    return combine(p, q, lambda in_p, in_q: in_p and not in_q)


def odd(p, q):
    return combine(p, q, lambda in_p, in_q: in_p != in_q)


def other(p):
    return odd(p, [0])


def later(p, n):
    return [bound + n for bound in p]


def earlier(p, n):
    """The set p, moved n towards 0; what would go below 0 falls away."""
    passed = [bound for bound in p if bound <= n]
    begin = [0] if len(passed) % 2 == 1 else []
    return begin + [bound - n for bound in p if bound > n]


def covered(begins, ends):
    """The moments at which more pieces have begun than have ended.

    The pieces may come in any order, overlap and touch; one that never ends has
    a begin and no end.
    """
    steps = {}
    for begin in begins:
        steps[begin] = steps.get(begin, 0) + 1
    for end in ends:
        steps[end] = steps.get(end, 0) - 1
    bounds = []
    depth = 0
    for moment in sorted(steps):
        before = depth
        depth = depth + steps[moment]
        if (before > 0) != (depth > 0):
            bounds.append(moment)
    return bounds


def recent(p, n):
    """The moments that have a moment of p at most n before them."""
    return covered(p[0::2], [end + n for end in p[1::2]])


def steady(p, n):
    """The moments that have no moment outside p at most n before them."""
    return other(recent(other(p), n))


def soon(p, n):
    """The moments that have a moment of p at most n behind them; none is before 0."""
    return covered([max(begin - n, 0) for begin in p[0::2]], p[1::2])


def hull(p):
    """All from the first moment of p on up to its last one, or on for ever if it has no last one."""
    if p == [] or is_endless(p):
        return p[:1]
    return [p[0], p[-1]]


def gaps(p):
    return less(hull(p), p)


def lasting(p, n):
    """The pieces of p that have at least n moments or never end."""
    bounds = []
    for piece in pieces_of(p):
        if is_endless(piece) or piece[1] - piece[0] >= n:
            bounds.extend(piece)
    return bounds


def fill(p, n):
    """The set p with those of its gaps that have at most n moments."""
    short = []
    # A gap always ends, as a moment of p is behind it.
    for gap in pieces_of(gaps(p)):
        if gap[1] - gap[0] <= n:
            short.extend(gap)
    return either(p, short)


def every(a, step, length, count):
    """So many stretches of the same length, each begun one step behind the one before it."""
    begins = [a + place * step for place in range(count)]
    return covered(begins, [begin + length for begin in begins])
