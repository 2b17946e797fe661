"""The edges of each call that puts a set: 0, the latest bound, never, always, endless sets, 64 bounds."""

import unittest

from tests.helper import EIGHT, LATEST, Case, many, put_all

BEFORE = put_all(EIGHT)
PIECES = many(64)
ENDLESS = many(63)


class OneRegister(Case):
    def check_on(self, bounds, name, numbers, result):
        self.check_put([*BEFORE, ("put", 5, bounds)], (name, 5, *numbers), result)

    def check_refused_on(self, bounds, name, numbers, number):
        self.check_refused([*BEFORE, ("put", 5, bounds)], (name, 5, *numbers), number)

    def test_clear(self):
        for r in range(8):
            self.check_put(BEFORE, ("clear", r), [])
        self.check_on(PIECES, "clear", (), [])

    def test_add(self):
        self.check_on([], "add", (0, 1), [0, 1])
        self.check_on([], "add", (0, LATEST), [0, LATEST])
        self.check_on([], "add", (LATEST - 1, LATEST), [LATEST - 1, LATEST])
        self.check_on([0], "add", (5, LATEST), [0])
        self.check_on([LATEST], "add", (3, LATEST), [3])
        self.check_on([3, 7, 9], "add", (7, 9), [3])
        self.check_on([3, 7], "add", (7, 9), [3, 9])
        self.check_on([3, 7], "add", (0, 3), [0, 7])

    def test_add_and_64_bounds(self):
        self.check_on(many(62), "add", (700, 701), many(62) + [700, 701])
        self.check_on(PIECES, "add", (0, 630), [0, 630])
        self.check_on(PIECES, "add", (630, LATEST), many(63) + [LATEST])
        self.check_refused_on(PIECES, "add", (700, 701), -6)
        self.check_refused_on(ENDLESS, "add", (15, 16), -6)

    def test_open(self):
        self.check_on([], "open", (0,), [0])
        self.check_on([], "open", (LATEST,), [LATEST])
        self.check_on([0, LATEST], "open", (LATEST,), [0])
        self.check_on([3, 7, 9], "open", (20,), [3, 7, 9])
        self.check_on([3, 7, 9], "open", (7,), [3])
        self.check_on([3, 7, 9], "open", (0,), [0])
        self.check_on(many(62), "open", (700,), many(62) + [700])
        self.check_on(PIECES, "open", (630,), many(63))
        self.check_refused_on(PIECES, "open", (631,), -6)
        self.check_refused_on(PIECES, "open", (LATEST,), -6)

    def test_cut(self):
        self.check_on([], "cut", (0, LATEST), [])
        self.check_on([0], "cut", (0, LATEST), [LATEST])
        self.check_on([0], "cut", (LATEST - 1, LATEST), [0, LATEST - 1, LATEST])
        self.check_on([3, 7, 9], "cut", (0, 3), [3, 7, 9])
        self.check_on([3, 7, 9], "cut", (7, 9), [3, 7, 9])
        self.check_on([3, 7, 9], "cut", (5, 12), [3, 5, 12])
        self.check_on([LATEST], "cut", (3, LATEST), [LATEST])
        self.check_on(many(61), "cut", (700, 701), many(61) + [700, 701])
        self.check_on(many(62), "cut", (5, 6), [0, 5, 6] + many(61, 10))
        self.check_refused_on(ENDLESS, "cut", (700, 701), -6)
        self.check_refused_on(PIECES, "cut", (5, 6), -6)

    def test_stop(self):
        self.check_on([0], "stop", (0,), [])
        self.check_on([0], "stop", (LATEST,), [0, LATEST])
        self.check_on([LATEST], "stop", (LATEST,), [])
        self.check_on([3, 7, 9], "stop", (3,), [])
        self.check_on([3, 7, 9], "stop", (4,), [3, 4])
        self.check_on([3, 7, 9], "stop", (9,), [3, 7])
        self.check_on([3, 7], "stop", (8,), [3, 7])
        self.check_on([], "stop", (5,), [])
        self.check_on(ENDLESS, "stop", (700,), ENDLESS + [700])
        self.check_on(PIECES, "stop", (LATEST,), PIECES)

    def test_flip(self):
        self.check_on([], "flip", (0,), [0])
        self.check_on([0], "flip", (0,), [])
        self.check_on([0], "flip", (LATEST,), [0, LATEST])
        self.check_on([], "flip", (LATEST,), [LATEST])
        self.check_on([LATEST], "flip", (LATEST,), [])
        self.check_on([3, 7, 9], "flip", (5,), [3, 5, 7, 9])
        self.check_on(ENDLESS, "flip", (5,), [0, 5] + many(62, 10))
        self.check_on(PIECES, "flip", (630,), ENDLESS)
        self.check_refused_on(PIECES, "flip", (5,), -6)
        self.check_refused_on(PIECES, "flip", (LATEST,), -6)


class TwoRegisters(Case):
    def check_two(self, p, q, name, result):
        self.check_put([*BEFORE, ("put", 3, p), ("put", 4, q)], (name, 5, 3, 4), result)

    def check_two_refused(self, p, q, name):
        before = [*BEFORE, ("put", 3, p), ("put", 4, q)]
        for r in (5, 3, 4):
            self.check_refused(before, (name, r, 3, 4), -6)

    def test_never_and_always(self):
        for p in EIGHT:
            opposite = p[1:] if p[:1] == [0] else [0] + p
            self.check_two(p, [], "either", p)
            self.check_two(p, [0], "either", [0])
            self.check_two(p, [], "both", [])
            self.check_two(p, [0], "both", p)
            self.check_two(p, [], "less", p)
            self.check_two(p, [0], "less", [])
            self.check_two([], p, "less", [])
            self.check_two([0], p, "less", opposite)
            self.check_two(p, [], "odd", p)
            self.check_two(p, [0], "odd", opposite)
            self.check_put([*BEFORE, ("put", 3, p)], ("other", 5, 3), opposite)

    def test_the_latest_bound(self):
        self.check_two([0, LATEST], [LATEST], "either", [0])
        self.check_two([0, LATEST], [LATEST], "both", [])
        self.check_two([5], [LATEST], "less", [5, LATEST])
        self.check_two([5], [LATEST], "odd", [5, LATEST])

    def test_64_bounds(self):
        low = many(32)
        high = many(32, 1000)
        self.check_two(low, high, "either", low + high)
        self.check_two(low, high, "odd", low + high)
        overlaps = [bound for k in range(0, 640, 20) for bound in (k + 5, k + 10)]
        self.check_two(many(64), many(64, 5), "both", overlaps)
        self.check_two(many(2, 0, 1000), many(62, 5), "less", [0] + many(62, 5) + [1000])

    def test_more_than_64_bounds(self):
        low = many(32)
        self.check_two_refused(low, many(33, 1000), "either")
        self.check_two_refused(low, many(33, 1000), "odd")
        self.check_two_refused(many(64), many(64, 1000), "either")
        self.check_two_refused(many(1), many(64, 5), "less")
        # Two cuts within the first piece leave three pieces of it, and so two more than 32 in all.
        self.check_two_refused(many(64), [0, 2, 4, 6, 8], "both")

    def test_other(self):
        for p, result in ((many(63, 5), [0] + many(63, 5)), (many(64), many(63, 10)), (many(1), [])):
            self.check_put([*BEFORE, ("put", 3, p)], ("other", 5, 3), result)
            self.check_put([*BEFORE, ("put", 3, p)], ("other", 3, 3), result)
        self.check_refused([*BEFORE, ("put", 3, many(64, 5))], ("other", 5, 3), -6)
        self.check_refused([*BEFORE, ("put", 3, many(64, 5))], ("other", 3, 3), -6)


class ByNumber(Case):
    def check_by(self, p, name, n, result):
        for r in (5, 3):
            self.check_put([*BEFORE, ("put", 3, p)], (name, r, 3, n), result)

    def check_too_late(self, p, name, n):
        for r in (5, 3):
            self.check_refused([*BEFORE, ("put", 3, p)], (name, r, 3, n), -5)

    def test_0_changes_nothing(self):
        for name in ("later", "earlier", "recent", "steady"):
            for p in (*EIGHT, PIECES, ENDLESS):
                self.check_by(p, name, 0, p)

    def test_never(self):
        for name in ("later", "earlier", "recent", "steady"):
            for n in (1, LATEST):
                self.check_by([], name, n, [])

    def test_always(self):
        for name in ("earlier", "recent", "steady"):
            for n in (1, LATEST):
                self.check_by([0], name, n, [0])
        self.check_by([0], "later", LATEST, [LATEST])

    def test_later(self):
        self.check_by([3, 7, 9], "later", 5, [8, 12, 14])
        self.check_by([0, 5], "later", LATEST - 5, [LATEST - 5, LATEST])
        self.check_by(PIECES, "later", LATEST - 630, many(64, LATEST - 630))
        self.check_too_late(PIECES, "later", LATEST - 629)
        self.check_too_late([0, 5], "later", LATEST - 4)
        self.check_too_late([1], "later", LATEST)
        self.check_too_late([LATEST], "later", 1)
        self.check_too_late([LATEST], "later", LATEST)

    def test_earlier(self):
        self.check_by([3, 7, 9], "earlier", 3, [0, 4, 6])
        self.check_by([3, 7, 9], "earlier", 5, [0, 2, 4])
        self.check_by([3, 7, 9], "earlier", 7, [2])
        self.check_by([3, 7, 9], "earlier", 9, [0])
        self.check_by([3, 7, 9], "earlier", LATEST, [0])
        self.check_by([3, 7], "earlier", 6, [0, 1])
        self.check_by([3, 7], "earlier", 7, [])
        self.check_by([LATEST], "earlier", LATEST, [0])
        self.check_by([0, LATEST], "earlier", LATEST, [])
        self.check_by([0, LATEST], "earlier", LATEST - 1, [0, 1])

    def test_recent(self):
        self.check_by([3, 7, 9], "recent", 1, [3, 8, 9])
        self.check_by([3, 7, 9], "recent", LATEST, [3])
        self.check_by([LATEST], "recent", LATEST, [LATEST])
        self.check_by([0, 1], "recent", LATEST - 1, [0, LATEST])
        self.check_by([3, 7, 9, 10, 12, 13], "recent", 2, [3, 15])
        self.check_by([3, 7, 9, 10, 40, 41], "recent", 6, [3, 16, 40, 47])
        self.check_by([3, LATEST - 1, LATEST], "recent", 1, [3])
        self.check_by(PIECES, "recent", 9, [bound + 9 * (k % 2) for k, bound in enumerate(PIECES)])
        self.check_by(PIECES, "recent", 10, [0, 640])
        self.check_by(ENDLESS, "recent", 10, [0])
        self.check_too_late([0, 1], "recent", LATEST)
        self.check_too_late([0, LATEST], "recent", 1)
        self.check_too_late([LATEST - 1, LATEST], "recent", LATEST)

    def test_steady(self):
        self.check_by([3, 7, 9], "steady", 3, [6, 7, 12])
        self.check_by([3, 7, 9], "steady", 4, [13])
        self.check_by([0, 7, 9, 12], "steady", 2, [0, 7, 11, 12])
        self.check_by([0, 7, 9, 12], "steady", 100, [0, 7])
        self.check_by([0, 1, 3], "steady", LATEST - 3, [0, 1, LATEST])
        self.check_by([1, LATEST], "steady", LATEST - 2, [LATEST - 1, LATEST])
        self.check_by([1, LATEST], "steady", LATEST - 1, [])
        self.check_by([0, LATEST], "steady", LATEST, [0, LATEST])
        self.check_by([LATEST - 1, LATEST], "steady", LATEST, [])
        self.check_by(many(64, 5), "steady", 9, [bound + 9 * (1 - k % 2) for k, bound in enumerate(many(64, 5))])
        self.check_by(many(64, 5), "steady", 10, [])
        self.check_too_late([LATEST], "steady", 1)
        self.check_too_late([0, 1, 3], "steady", LATEST - 2)
        self.check_too_late([1], "steady", LATEST)


if __name__ == "__main__":
    unittest.main()
