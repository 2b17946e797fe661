"""Refusals: each one given, alone, changing nothing, and the earlier one where two hold."""

import unittest

from tests.helper import CALLS, EIGHT, HUGE, LATEST, Case, ask, many, put_all

BEFORE = put_all(EIGHT)
# 33 pieces that do not touch: 66 bounds.
TOO_MANY_WORDS = " ".join(str(2 * place) for place in range(33))
ROWS = {"put": [3, 7], "read": "3..7"}


def row_of(name):
    return [ROWS[name]] if name in ROWS else []


def good_value(kind, registers, moment):
    """A value that is not refused: b is above a, len isn't 0 nor greater than step, count isn't above 32."""
    if kind in "rpq":
        return registers
    if kind in "sl":
        return max(moment, 1)
    if kind == "c":
        return min(moment, 32)
    return moment + (kind == "b")


def good_call(name, registers=0, moment=3):
    return [name] + [good_value(kind, registers, moment) for kind in CALLS[name][1]] + row_of(name)


class Ranges(Case):
    def test_each_argument_out_of_range(self):
        for name, (number, kinds) in CALLS.items():
            for place, kind in enumerate(kinds, 1):
                greatest = 7 if kind in "rpq" else LATEST
                for value in (-1, -2, -8, greatest + 1, greatest + 2, HUGE, -HUGE):
                    call = good_call(name)
                    call[place] = value
                    self.check_refused(BEFORE, tuple(call), -1)

    def test_two_arguments_out_of_range(self):
        for name, (number, kinds) in CALLS.items():
            call = [-1 if place else name for place in range(len(kinds) + 1)] + row_of(name)
            self.check_refused(BEFORE, tuple(call), -1)

    def test_the_least_and_greatest_in_range(self):
        for name in CALLS:
            for r in (0, 7):
                for moment in (0, LATEST - 1):
                    told = ask(*BEFORE, tuple(good_call(name, r, moment)))
                    self.assertNotEqual(told[8], [-1], name)
        for name in ("open", "stop", "flip"):
            self.assertNotEqual(ask((name, 0, LATEST)), [[-1]])
        for name in ("later", "earlier", "recent", "steady", "soon", "lasting", "fill"):
            self.assertNotEqual(ask((name, 0, 0, LATEST)), [[-1]])
        for name in ("has", "next", "prev", "nth", "rank", "piece"):
            self.assertNotEqual(ask((name, 0, LATEST)), [[-1]])
        self.assertEqual(ask(("every", 0, LATEST, LATEST, LATEST, 0)), [[0]])
        self.assertEqual(ask(("every", 0, 0, LATEST, LATEST, 1)), [[2]])

    def test_a_not_less_than_b(self):
        for name in ("add", "cut"):
            for a, b in ((3, 3), (7, 3), (0, 0), (1, 0), (LATEST, LATEST), (LATEST, 0)):
                self.check_refused(BEFORE, (name, 0, a, b), -1)
                self.check_refused(BEFORE, (name, 1, a, b), -1)

    def test_a_less_than_b_and_one_out_of_range(self):
        for name in ("add", "cut"):
            for a, b in ((3, LATEST + 1), (-1, 3), (-2, -1), (LATEST + 1, LATEST + 2), (-HUGE, HUGE)):
                self.check_refused(BEFORE, (name, 2, a, b), -1)


class Every(Case):
    def check_wrong(self, *numbers):
        for r in (0, 1, 7):
            self.check_refused(BEFORE, ("every", r, *numbers), -1)

    def test_len_0(self):
        self.check_wrong(3, 5, 0, 2)
        self.check_wrong(3, 0, 0, 2)
        self.check_wrong(0, 0, 0, 0)

    def test_len_greater_than_step(self):
        self.check_wrong(3, 5, 6, 2)
        self.check_wrong(3, 0, 1, 2)
        self.check_wrong(3, LATEST - 1, LATEST, 1)
        self.check_wrong(0, 1, LATEST, 1)

    def test_count_above_32(self):
        for count in (33, 34, 64, 1000, LATEST):
            self.check_wrong(3, 5, 2, count)
            self.check_wrong(3, 5, 5, count)

    def test_count_0_is_held_against_the_same_ranges(self):
        self.check_wrong(3, 5, 0, 0)
        self.check_wrong(3, 5, 6, 0)
        self.check_wrong(LATEST + 1, 5, 5, 0)
        self.check_wrong(3, LATEST + 1, 5, 0)
        self.check_wrong(3, LATEST + 2, LATEST + 1, 0)

    def test_a_bound_too_late(self):
        for numbers in ((LATEST, 1, 1, 1), (LATEST - 1, 2, 2, 1), (0, LATEST, 1, 2), (5, LATEST, LATEST, 1),
                        (LATEST, LATEST, LATEST, 32), (LATEST - 31 * 5 - 1, 5, 2, 32), (LATEST - 159, 5, 5, 32)):
            for r in (0, 1, 7):
                self.check_refused(BEFORE, ("every", r, *numbers), -5)

    def test_wrong_numbers_before_a_bound_too_late(self):
        self.check_wrong(LATEST, 1, 0, 1)
        self.check_wrong(LATEST, 0, 0, 1)
        self.check_wrong(LATEST, 1, 2, 1)
        self.check_wrong(LATEST, 1, 1, 33)
        self.check_wrong(0, LATEST, 1, 33)
        self.check_wrong(LATEST + 1, 1, 1, 1)
        for r in (-1, 8):
            self.check_refused(BEFORE, ("every", r, LATEST, 1, 1, 1), -1)


class NoSuchMomentOrPiece(Case):
    """Register 1 holds never."""

    def test_never(self):
        for call in (("first", 1), ("last", 1), ("next", 1, 0), ("next", 1, LATEST), ("prev", 1, 0),
                     ("prev", 1, LATEST), ("nth", 1, 0), ("nth", 1, LATEST), ("piece", 1, 0), ("piece", 1, LATEST)):
            self.check_refused(BEFORE, call, -3)

    def test_sets_that_are_not_never(self):
        for call in (("next", 3, 5), ("next", 7, LATEST), ("prev", 0, 2), ("prev", 4, LATEST - 1), ("nth", 3, 5),
                     ("nth", 6, 1), ("nth", 7, LATEST), ("piece", 0, 2), ("piece", 2, 1), ("piece", 3, LATEST)):
            self.check_refused(BEFORE, call, -3)


class Endless(Case):
    def test_endless_sets(self):
        for bounds in ([0], [1], [LATEST], [3, 7, 9], many(63)):
            for name in ("last", "size"):
                self.check_refused([*BEFORE, ("put", 6, bounds)], (name, 6), -4)

    def test_never_is_not_endless(self):
        self.check_refused(BEFORE, ("last", 1), -3)
        self.check_asked(BEFORE, ("size", 1), [0])

    def test_no_other_question_is_refused(self):
        for call in (("has", 0, 8), ("first", 0), ("next", 0, 8), ("prev", 0, 8), ("nth", 0, 8), ("rank", 0, 8),
                     ("pieces", 0), ("piece", 0, 1), ("relate", 0, 0), ("allen", 2, 4)):
            self.assertGreaterEqual(ask(*BEFORE, call)[8][0], 0, call)


class TheEarlierOne(Case):
    def test_range_before_form(self):
        for r in (-1, 8, HUGE):
            for row in ([3, 3], [-1], [LATEST + 1], [7, 3]):
                self.check_refused(BEFORE, ("put", r, row), -1)
            for text in ("", "x", "3..3", " " * 1001):
                self.check_refused(BEFORE, ("read", r, text), -1)

    def test_range_before_no_such_piece(self):
        for p, q in ((1, 8), (8, 1), (-1, 0), (0, -1), (5, HUGE)):
            self.check_refused(BEFORE, ("allen", p, q), -1)

    def test_range_before_no_such_moment(self):
        for name in ("next", "prev", "nth", "piece"):
            for value in (-1, LATEST + 1, HUGE, -HUGE):
                # Register 1 holds never, where each of these has nothing to find.
                self.check_refused(BEFORE, (name, 1, value), -1)
                self.check_refused(BEFORE, (name, 0, value), -1)
        for name in ("first", "last"):
            self.check_refused([], (name, 8), -1)

    def test_range_before_an_endless_set(self):
        endless = [("put", r, [r]) for r in range(8)]
        for name in ("last", "size"):
            for r in (-1, -8, 8, HUGE, -HUGE):
                self.check_refused(endless, (name, r), -1)

    def test_range_before_a_bound_too_late(self):
        for r in (-1, 8):
            self.check_refused(BEFORE, ("read", r, "1000000000"), -1)
            self.check_refused(BEFORE, ("later", r, 4, 1), -1)
            self.check_refused(BEFORE, ("recent", r, 7, 1), -1)
            self.check_refused(BEFORE, ("steady", r, 4, 1), -1)
        for name, p in (("later", 4), ("recent", 7), ("steady", 4)):
            self.check_refused(BEFORE, (name, 0, p, LATEST + 1), -1)

    def test_range_before_too_many_bounds(self):
        before = [*BEFORE, ("put", 0, many(64, 5)), ("put", 1, many(64, 1000)), ("put", 2, [0])]
        for r in (-1, 8):
            self.check_refused(before, ("put", r, many(65)), -1)
            self.check_refused(before, ("read", r, TOO_MANY_WORDS), -1)
            self.check_refused(before, ("either", r, 0, 1), -1)
            self.check_refused(before, ("less", r, 2, 0), -1)
            self.check_refused(before, ("odd", r, 0, 1), -1)
            self.check_refused(before, ("other", r, 0), -1)
        for name, call in (("add", (0, 701, 701)), ("cut", (0, 7, 7)), ("add", (0, 701, LATEST + 1))):
            self.check_refused(before, (name, *call), -1)
        for name in ("open", "flip"):
            self.check_refused(before, (name, 0, LATEST + 1), -1)
        self.check_refused([("put", 0, many(64)), ("put", 1, [0, 2, 4, 6, 8])], ("both", 8, 0, 1), -1)

    def test_form_before_a_bound_too_late(self):
        for text in ("1000000000 x", "3..3 1000000000", "1000000000 1000000001", "1000000000".ljust(1001)):
            self.check_refused(BEFORE, ("read", 0, text), -2)

    def test_form_before_too_many_bounds(self):
        for row in (many(65) + [640], many(65) + [LATEST + 1], [-1] + many(65), many(199) + [0]):
            self.check_refused(BEFORE, ("put", 0, row), -2)
        for text in (TOO_MANY_WORDS + " x", "03 " + TOO_MANY_WORDS, TOO_MANY_WORDS.ljust(1001)):
            self.check_refused(BEFORE, ("read", 0, text), -2)

    def test_a_bound_too_late_before_too_many_bounds(self):
        for text in (TOO_MANY_WORDS + " 1000000000", "1000000000 " + TOO_MANY_WORDS):
            self.check_refused(BEFORE, ("read", 0, text), -5)

    def test_put_never_refuses_with_a_bound_too_late(self):
        self.check_refused(BEFORE, ("put", 0, [LATEST + 1]), -2)


class BehindARefusal(Case):
    def test_the_next_calls_go_on(self):
        told = ask(("add", 0, 3, 7), ("add", 0, 7, 3), ("put", 0, [5, 5]), ("later", 0, 0, LATEST),
                   ("piece", 0, 1), ("put", 0, many(65)), ("open", 0, 9), ("last", 0), ("bounds", 0))
        self.assertEqual(told, [[2], [-1], [-2], [-5], [-3], [-6], [3], [-4], [3, 3, 7, 9]])


if __name__ == "__main__":
    unittest.main()
