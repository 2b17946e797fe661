"""Refusals: each one given, alone, changing nothing, and the earlier one where two hold."""

import unittest

from tests.helper import CALLS, EIGHT, HUGE, LATEST, Case, ask, many, put_all

BEFORE = put_all(EIGHT)
# 33 pieces that do not touch: 66 bounds.
TOO_MANY_WORDS = " ".join(str(2 * place) for place in range(33))
ROWS = {"put": [3, 7], "read": "3..7"}


def row_of(name):
    return [ROWS[name]] if name in ROWS else []


def good_call(name, registers=0, moment=3):
    """A call of this name that is not refused for an argument: b is above a."""
    call = [name]
    for kind in CALLS[name][1]:
        call.append(registers if kind in "rpq" else moment + (kind == "b"))
    return call + row_of(name)


class Ranges(Case):
    def test_each_argument_out_of_range(self):
        for name, (number, kinds) in CALLS.items():
            for place, kind in enumerate(kinds, 1):
                greatest = 7 if kind in "rpq" else LATEST
                for value in (-1, -2, -8, greatest + 1, greatest + 2, HUGE, -HUGE):
                    call = good_call(name)
                    call[place] = value
                    self.check_refused(BEFORE, tuple(call), -1)

    def test_two_arguments_out_of_range(self):
        for name, (number, kinds) in CALLS.items():
            call = [-1 if place else name for place in range(len(kinds) + 1)] + row_of(name)
            self.check_refused(BEFORE, tuple(call), -1)

    def test_the_least_and_greatest_in_range(self):
        for name in CALLS:
            for r in (0, 7):
                for moment in (0, LATEST - 1):
                    told = ask(*BEFORE, tuple(good_call(name, r, moment)))
                    self.assertNotEqual(told[8], [-1], name)
        for name in ("open", "stop", "flip"):
            self.assertNotEqual(ask((name, 0, LATEST)), [[-1]])
        for name in ("later", "earlier", "recent", "steady"):
            self.assertNotEqual(ask((name, 0, 0, LATEST)), [[-1]])

    def test_a_not_less_than_b(self):
        for name in ("add", "cut"):
            for a, b in ((3, 3), (7, 3), (0, 0), (1, 0), (LATEST, LATEST), (LATEST, 0)):
                self.check_refused(BEFORE, (name, 0, a, b), -1)
                self.check_refused(BEFORE, (name, 1, a, b), -1)

    def test_a_less_than_b_and_one_out_of_range(self):
        for name in ("add", "cut"):
            for a, b in ((3, LATEST + 1), (-1, 3), (-2, -1), (LATEST + 1, LATEST + 2), (-HUGE, HUGE)):
                self.check_refused(BEFORE, (name, 2, a, b), -1)


class TheEarlierOne(Case):
    def test_range_before_form(self):
        for r in (-1, 8, HUGE):
            for row in ([3, 3], [-1], [LATEST + 1], [7, 3]):
                self.check_refused(BEFORE, ("put", r, row), -1)
            for text in ("", "x", "3..3", " " * 1001):
                self.check_refused(BEFORE, ("read", r, text), -1)

    def test_range_before_no_such_piece(self):
        for p, q in ((1, 8), (8, 1), (-1, 0), (0, -1), (5, HUGE)):
            self.check_refused(BEFORE, ("allen", p, q), -1)

    def test_range_before_a_bound_too_late(self):
        for r in (-1, 8):
            self.check_refused(BEFORE, ("read", r, "1000000000"), -1)
            self.check_refused(BEFORE, ("later", r, 4, 1), -1)
            self.check_refused(BEFORE, ("recent", r, 7, 1), -1)
            self.check_refused(BEFORE, ("steady", r, 4, 1), -1)
        for name, p in (("later", 4), ("recent", 7), ("steady", 4)):
            self.check_refused(BEFORE, (name, 0, p, LATEST + 1), -1)

    def test_range_before_too_many_bounds(self):
        before = [*BEFORE, ("put", 0, many(64, 5)), ("put", 1, many(64, 1000)), ("put", 2, [0])]
        for r in (-1, 8):
            self.check_refused(before, ("put", r, many(65)), -1)
            self.check_refused(before, ("read", r, TOO_MANY_WORDS), -1)
            self.check_refused(before, ("either", r, 0, 1), -1)
            self.check_refused(before, ("less", r, 2, 0), -1)
            self.check_refused(before, ("odd", r, 0, 1), -1)
            self.check_refused(before, ("other", r, 0), -1)
        for name, call in (("add", (0, 701, 701)), ("cut", (0, 7, 7)), ("add", (0, 701, LATEST + 1))):
            self.check_refused(before, (name, *call), -1)
        for name in ("open", "flip"):
            self.check_refused(before, (name, 0, LATEST + 1), -1)
        self.check_refused([("put", 0, many(64)), ("put", 1, [0, 2, 4, 6, 8])], ("both", 8, 0, 1), -1)

    def test_form_before_a_bound_too_late(self):
        for text in ("1000000000 x", "3..3 1000000000", "1000000000 1000000001", "1000000000".ljust(1001)):
            self.check_refused(BEFORE, ("read", 0, text), -2)

    def test_form_before_too_many_bounds(self):
        for row in (many(65) + [640], many(65) + [LATEST + 1], [-1] + many(65), many(199) + [0]):
            self.check_refused(BEFORE, ("put", 0, row), -2)
        for text in (TOO_MANY_WORDS + " x", "03 " + TOO_MANY_WORDS, TOO_MANY_WORDS.ljust(1001)):
            self.check_refused(BEFORE, ("read", 0, text), -2)

    def test_a_bound_too_late_before_too_many_bounds(self):
        for text in (TOO_MANY_WORDS + " 1000000000", "1000000000 " + TOO_MANY_WORDS):
            self.check_refused(BEFORE, ("read", 0, text), -5)

    def test_put_never_refuses_with_a_bound_too_late(self):
        self.check_refused(BEFORE, ("put", 0, [LATEST + 1]), -2)


class BehindARefusal(Case):
    def test_the_next_calls_go_on(self):
        told = ask(("add", 0, 3, 7), ("add", 0, 7, 3), ("put", 0, [5, 5]), ("later", 0, 0, LATEST),
                   ("open", 0, 9), ("bounds", 0))
        self.assertEqual(told, [[2], [-1], [-2], [-5], [3], [3, 3, 7, 9]])


if __name__ == "__main__":
    unittest.main()
