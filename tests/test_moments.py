"""Each call's set, held against its promise asked of every moment one at a time."""

import random
import unittest

from tests.helper import Case, ask, all_bounds, bounds_where, holds, small_sets

HORIZON = 40
SETS = small_sets(5)

# For each call the rule that a moment t of its set meets; p and q tell of a moment whether it is in.
ON_ONE = {
    "open": lambda p, t, a: p(t) or a <= t,
    "stop": lambda p, t, a: p(t) and t < a,
    "flip": lambda p, t, a: p(t) if t < a else not p(t),
}
ON_ONE_BETWEEN = {
    "add": lambda p, t, a, b: p(t) or a <= t < b,
    "cut": lambda p, t, a, b: p(t) and not a <= t < b,
}
ON_TWO = {
    "either": lambda p, q, t: p(t) or q(t),
    "both": lambda p, q, t: p(t) and q(t),
    "less": lambda p, q, t: p(t) and not q(t),
    "odd": lambda p, q, t: p(t) + q(t) == 1,
}
BY_NUMBER = {
    "later": lambda p, t, n: any(u + n == t for u in range(HORIZON) if p(u)),
    "earlier": lambda p, t, n: any(u - n == t for u in range(n, t + n + 1) if p(u)),
    "recent": lambda p, t, n: any(u <= t <= u + n for u in range(HORIZON) if p(u)),
    "steady": lambda p, t, n: all(p(u) for u in range(HORIZON) if u <= t <= u + n),
    "soon": lambda p, t, n: any(t <= u <= t + n for u in range(HORIZON) if p(u)),
    "lasting": lambda p, t, n: p(t) and (HORIZON - 1 in run(p, t) or len(run(p, t)) >= n),
    "fill": lambda p, t, n: p(t) or (between(p, t) and len(run(p, t)) <= n),
}
ON_ONE_ALONE = {
    "other": lambda p, t: not p(t),
    "hull": lambda p, t: p(t) or between(p, t),
    "gaps": lambda p, t: not p(t) and between(p, t),
}


def run(p, t):
    """The moments round t, one after the other, that are all in p like t or all out of it like t."""
    near = [t]
    while near[0] > 0 and p(near[0] - 1) == p(t):
        near.insert(0, near[0] - 1)
    while near[-1] < HORIZON - 1 and p(near[-1] + 1) == p(t):
        near.append(near[-1] + 1)
    return near


def between(p, t):
    """Whether p has a moment before t and one behind it."""
    return any(p(u) for u in range(t)) and any(p(u) for u in range(t + 1, HORIZON + 1))


def among(a, step, length, count):
    """The moments that every's promise names, one by one."""
    return [a + i * step + j for i in range(count) for j in range(length)]


def asker(bounds):
    return lambda moment: holds(bounds, moment)


class EveryMoment(Case):
    def test_clear(self):
        self.check_many([([bounds], ("clear", 0), []) for bounds in SETS])

    def test_open_stop_flip(self):
        for name, rule in ON_ONE.items():
            self.check_many([
                ([p], (name, 0, a), bounds_where(lambda t: rule(asker(p), t, a), HORIZON))
                for p in SETS for a in range(8)
            ])

    def test_add_cut(self):
        for name, rule in ON_ONE_BETWEEN.items():
            self.check_many([
                ([p], (name, 0, a, b), bounds_where(lambda t: rule(asker(p), t, a, b), HORIZON))
                for p in SETS for a in range(7) for b in range(a + 1, 8)
            ])

    def test_either_both_less_odd(self):
        for name, rule in ON_TWO.items():
            self.check_many([
                ([p, q], (name, 2, 0, 1), bounds_where(lambda t: rule(asker(p), asker(q), t), 10))
                for p in SETS for q in SETS
            ])

    def test_other_hull_gaps(self):
        for name, rule in ON_ONE_ALONE.items():
            self.check_many([
                ([p], (name, 1, 0), bounds_where(lambda t: rule(asker(p), t), HORIZON)) for p in SETS
            ])

    def test_later_earlier_recent_steady_soon_lasting_fill(self):
        for name, rule in BY_NUMBER.items():
            self.check_many([
                ([p], (name, 1, 0, n), bounds_where(lambda t: rule(asker(p), t, n), 20))
                for p in SETS for n in range(8)
            ])

    def test_sets_with_longer_pieces_and_gaps(self):
        source = random.Random(3)
        for name in ("soon", "lasting", "fill"):
            rule = BY_NUMBER[name]
            asked = []
            for turn in range(150):
                p = sorted(source.sample(range(30), source.randrange(9)))
                n = source.randrange(12)
                asked.append(([p], (name, 1, 0, n), bounds_where(lambda t: rule(asker(p), t, n), HORIZON)))
            self.check_many(asked)

    def test_every(self):
        self.check_many([
            ([[3, 7, 9]], ("every", 0, a, step, length, count),
             bounds_where(lambda t: t in among(a, step, length, count), HORIZON))
            for a in range(4) for step in range(1, 6) for length in range(1, step + 1) for count in range(6)
        ])


class OneRegisterForSeveral(Case):
    """p and q may be the same register, and may be r."""

    def test_r_is_p_or_q(self):
        for name, rule in ON_TWO.items():
            for r in (0, 1):
                self.check_many([
                    ([p, q], (name, r, 0, 1), bounds_where(lambda t: rule(asker(p), asker(q), t), 10))
                    for p in SETS[::3] for q in SETS[::3]
                ])

    def test_p_is_q(self):
        for name, rule in ON_TWO.items():
            for r in (0, 1):
                self.check_many([
                    ([p], (name, r, 0, 0), bounds_where(lambda t: rule(asker(p), asker(p), t), 10)) for p in SETS
                ])

    def test_r_is_p_with_one_set(self):
        for name, rule in ON_ONE_ALONE.items():
            self.check_many([
                ([p], (name, 0, 0), bounds_where(lambda t: rule(asker(p), t), HORIZON)) for p in SETS
            ])
        for name, rule in BY_NUMBER.items():
            self.check_many([
                ([p], (name, 0, 0, n), bounds_where(lambda t: rule(asker(p), t, n), 20))
                for p in SETS for n in (0, 1, 3)
            ])


def random_call(source):
    """A call and, for it, the rule of the moments that its register holds then."""
    registers = [source.randrange(8) for place in range(3)]
    r, p, q = registers
    a = source.randrange(12)
    b = source.randrange(a + 1, 14)
    n = source.randrange(4)
    step = source.randrange(1, 4)
    length = source.randrange(1, step + 1)
    name = source.choice(sorted([*ON_ONE, *ON_ONE_BETWEEN, *ON_TWO, *BY_NUMBER, *ON_ONE_ALONE, "every"]))
    if name in ON_ONE:
        return (name, r, a), lambda held, t: ON_ONE[name](held[r], t, a)
    if name in ON_ONE_BETWEEN:
        return (name, r, a, b), lambda held, t: ON_ONE_BETWEEN[name](held[r], t, a, b)
    if name in ON_TWO:
        return (name, r, p, q), lambda held, t: ON_TWO[name](held[p], held[q], t)
    if name in BY_NUMBER:
        return (name, r, p, n), lambda held, t: BY_NUMBER[name](held[p], t, n)
    if name in ON_ONE_ALONE:
        return (name, r, p), lambda held, t: ON_ONE_ALONE[name](held[p], t)
    return (name, r, a, step, length, n), lambda held, t: t in among(a, step, length, n)


class LinesOfCalls(Case):
    def test_random_lines(self):
        """A bound begins at most at 20, and five calls more move it by at most 15: all is before the horizon."""
        source = random.Random(2)
        for turn in range(600):
            held = [[] for r in range(8)]
            for r in range(8):
                held[r] = sorted(source.sample(range(14), source.randrange(6)))
            calls = [("put", r, held[r]) for r in range(8)]
            expected = [[len(bounds)] for bounds in held]
            for step in range(6):
                call, rule = random_call(source)
                askers = [asker(bounds) for bounds in held]
                held[call[1]] = bounds_where(lambda t: rule(askers, t), HORIZON)
                calls += [call, *all_bounds()]
                expected += [[len(held[call[1]])]] + [[len(bounds)] + bounds for bounds in held]
            self.assertEqual(ask(*calls), expected, calls)


if __name__ == "__main__":
    unittest.main()
