"""What the tests share: calls by name, answers one by one, and sets told moment by moment."""

import itertools
import unittest

from momentsets.registers import answers

LATEST = 1000000000
HUGE = 10 ** 18

# Each call of the program: its number and its whole numbers, one letter each (s, l, c: step, len, count).
CALLS = {
    "clear": (0, "r"), "put": (1, "r"), "bounds": (2, "r"), "read": (3, "r"), "show": (4, "r"),
    "add": (5, "rab"), "open": (6, "ra"), "cut": (7, "rab"), "stop": (8, "ra"), "flip": (9, "ra"),
    "either": (10, "rpq"), "both": (11, "rpq"), "less": (12, "rpq"), "odd": (13, "rpq"),
    "other": (14, "rp"), "later": (15, "rpn"), "earlier": (16, "rpn"),
    "recent": (17, "rpn"), "steady": (18, "rpn"), "soon": (19, "rpn"), "hull": (20, "rp"), "gaps": (21, "rp"),
    "lasting": (22, "rpn"), "fill": (23, "rpn"), "every": (24, "raslc"),
    "has": (25, "rt"), "first": (26, "r"), "last": (27, "r"), "size": (28, "r"), "next": (29, "rt"),
    "prev": (30, "rt"), "nth": (31, "rn"), "rank": (32, "rt"), "pieces": (33, "r"), "piece": (34, "ri"),
    "relate": (35, "pq"), "allen": (36, "pq"),
}

# Eight sets that all differ, so that a change of any register shows.
EIGHT = (
    [3, 7, 9], [], [0], [0, 5], [LATEST], [2, 4, 6, 8, 10], [1, 2], [LATEST - 1, LATEST],
)


def encoded(call):
    """The numbers of one call: (name, whole numbers .., and a list or a text if it has one)."""
    numbers = [CALLS[call[0]][0]]
    for argument in call[1:]:
        if isinstance(argument, str):
            argument = list(argument.encode("latin-1"))
        if isinstance(argument, list):
            numbers.append(len(argument))
            numbers.extend(argument)
        else:
            numbers.append(argument)
    return numbers


def line(calls):
    return [number for call in calls for number in encoded(call)]


def parted(told, how_many):
    """The answers one by one; there must be just how_many of them."""
    found = []
    place = 0
    while place < len(told):
        count = told[place]
        assert count >= 1
        found.append(told[place + 1:place + 1 + count])
        assert len(found[-1]) == count
        place += 1 + count
    assert len(found) == how_many
    return found


def ask(*calls):
    return parted(answers(line(calls)), len(calls))


def put_all(sets):
    return [("put", r, list(bounds)) for r, bounds in enumerate(sets)]


def all_bounds():
    return [("bounds", r) for r in range(8)]


def text_in(answer):
    """The text that show answered; its count must be right."""
    assert answer[0] == len(answer) - 1
    return bytes(answer[1:]).decode("latin-1")


def holds(bounds, moment):
    return sum(1 for bound in bounds if bound <= moment) % 2 == 1


def bounds_where(true_of, horizon):
    """The bounds of the set of moments that a rule is true of, if it changes no more from horizon on."""
    found = []
    inside = False
    for moment in range(horizon):
        if bool(true_of(moment)) != inside:
            inside = not inside
            found.append(moment)
    return found


def small_sets(greatest):
    """Every set whose bounds are at most greatest."""
    every = range(greatest + 1)
    return [list(some) for count in range(greatest + 2) for some in itertools.combinations(every, count)]


def many(count, begin=0, step=10):
    """A set of count bounds, each step behind the one before it."""
    return [begin + step * place for place in range(count)]


class Case(unittest.TestCase):
    def check_put(self, before, call, bounds):
        """The call puts these bounds into its register, answers how many, and leaves the others."""
        r = call[1]
        told = ask(*before, *all_bounds(), call, *all_bounds())
        start = len(before)
        held = told[start:start + 8]
        held[r] = [len(bounds)] + bounds
        self.assertEqual(told[start + 8], [len(bounds)], call)
        self.assertEqual(told[start + 9:], held, call)

    def check_refused(self, before, call, number):
        """The call is refused with this number alone, and every register is as it was."""
        told = ask(*before, *all_bounds(), call, *all_bounds())
        start = len(before)
        self.assertEqual(told[start + 8], [number], call)
        self.assertEqual(told[start + 9:], told[start:start + 8], call)

    def check_asked(self, before, call, answer):
        """The call answers just this, and every register is as it was."""
        told = ask(*before, *all_bounds(), call, *all_bounds())
        start = len(before)
        self.assertEqual(told[start + 8], answer, (before, call))
        self.assertEqual(told[start + 9:], told[start:start + 8], call)

    def check_many(self, asked):
        """Each of asked is (sets, call, bounds): many of them are put into each line of calls."""
        for begin in range(0, len(asked), 60):
            some = asked[begin:begin + 60]
            calls = []
            for sets, call, bounds in some:
                calls += put_all(sets) + [call, ("bounds", call[1])]
            told = iter(ask(*calls))
            for sets, call, bounds in some:
                for held in sets:
                    self.assertEqual(next(told), [len(held)])
                self.assertEqual(next(told), [len(bounds)], (sets, call))
                self.assertEqual(next(told), [len(bounds)] + bounds, (sets, call))
