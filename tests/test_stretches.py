"""The edges of soon, hull, gaps, lasting, fill and every: promises 11 to 14."""

import unittest

from tests.helper import EIGHT, LATEST, Case, ask, many, put_all

BEFORE = put_all(EIGHT)
PIECES = many(64)
ENDLESS = many(63)


class FromOne(Case):
    """p is register 3; the set goes into another register and into p itself."""

    def check_from(self, p, name, numbers, result):
        for r in (5, 3, 0, 7):
            self.check_put([*BEFORE, ("put", 3, p)], (name, r, 3, *numbers), result)

    def test_0_takes_nothing_and_brings_nothing(self):
        for name in ("soon", "lasting", "fill"):
            for p in (*EIGHT, PIECES, ENDLESS):
                self.check_from(p, name, (0,), p)

    def test_never_and_always(self):
        for name in ("soon", "lasting", "fill"):
            for n in (1, 5, LATEST):
                self.check_from([], name, (n,), [])
                self.check_from([0], name, (n,), [0])
        self.check_from([], "hull", (), [])
        self.check_from([], "gaps", (), [])
        self.check_from([0], "hull", (), [0])
        self.check_from([0], "gaps", (), [])

    def test_soon_near_0(self):
        self.check_from([3, 7], "soon", (2,), [1, 7])
        self.check_from([3, 7], "soon", (3,), [0, 7])
        self.check_from([3, 7], "soon", (4,), [0, 7])
        self.check_from([3, 7], "soon", (LATEST,), [0, 7])
        self.check_from([0, 1], "soon", (1,), [0, 1])
        self.check_from([0, 1, 5, 6], "soon", (3,), [0, 1, 2, 6])
        self.check_from([0, 1, 5, 6], "soon", (4,), [0, 6])
        self.check_from([1, 2, 3, 4, 9], "soon", (5,), [0])
        self.check_from([1], "soon", (1,), [0])

    def test_soon(self):
        self.check_from([3, 7, 9], "soon", (1,), [2, 7, 8])
        self.check_from([3, 7, 9], "soon", (LATEST,), [0])
        self.check_from([20, 21, 30, 31], "soon", (8,), [12, 21, 22, 31])
        self.check_from([20, 21, 30, 31], "soon", (9,), [11, 31])
        self.check_from([20, 21, 30, 31], "soon", (25,), [0, 31])
        self.check_from([LATEST], "soon", (1,), [LATEST - 1])
        self.check_from([LATEST], "soon", (LATEST - 1,), [1])
        self.check_from([LATEST], "soon", (LATEST,), [0])
        self.check_from([LATEST - 1, LATEST], "soon", (LATEST,), [0, LATEST])
        self.check_from([LATEST - 1, LATEST], "soon", (LATEST - 2,), [1, LATEST])

    def test_soon_of_64_and_63_bounds(self):
        self.check_from(many(64, 50), "soon", (9,), [bound - 9 * (1 - k % 2) for k, bound in enumerate(many(64, 50))])
        self.check_from(many(64, 50), "soon", (10,), [40, 680])
        self.check_from(many(63, 50), "soon", (9,), [bound - 9 * (1 - k % 2) for k, bound in enumerate(many(63, 50))])
        self.check_from(many(63, 50), "soon", (10,), [40])

    def test_hull(self):
        self.check_from([3, 7, 9], "hull", (), [3])
        self.check_from([3, 7, 9, 12], "hull", (), [3, 12])
        self.check_from([3, 7], "hull", (), [3, 7])
        self.check_from([0, 1], "hull", (), [0, 1])
        self.check_from([0, 1, LATEST - 1, LATEST], "hull", (), [0, LATEST])
        self.check_from([0, 1, LATEST], "hull", (), [0])
        self.check_from([LATEST], "hull", (), [LATEST])
        self.check_from(PIECES, "hull", (), [0, 630])
        self.check_from(ENDLESS, "hull", (), [0])

    def test_gaps(self):
        self.check_from([3, 7, 9], "gaps", (), [7, 9])
        self.check_from([3, 7, 9, 12], "gaps", (), [7, 9])
        self.check_from([3, 7, 9, 12, 20], "gaps", (), [7, 9, 12, 20])
        self.check_from([3, 7], "gaps", (), [])
        self.check_from([3], "gaps", (), [])
        self.check_from([0, 1, LATEST], "gaps", (), [1, LATEST])
        self.check_from([0, 1, LATEST - 1, LATEST], "gaps", (), [1, LATEST - 1])
        self.check_from([LATEST], "gaps", (), [])
        self.check_from(PIECES, "gaps", (), many(62, 10))
        self.check_from(ENDLESS, "gaps", (), many(62, 10))

    def test_lasting(self):
        p = [0, 1, 5, 7, 10, 13, 20]
        self.check_from(p, "lasting", (1,), p)
        self.check_from(p, "lasting", (2,), [5, 7, 10, 13, 20])
        self.check_from(p, "lasting", (3,), [10, 13, 20])
        self.check_from(p, "lasting", (4,), [20])
        self.check_from(p, "lasting", (LATEST,), [20])
        self.check_from([3, 7], "lasting", (4,), [3, 7])
        self.check_from([3, 7], "lasting", (5,), [])
        self.check_from([10, 14, 20, 21, 30, 35], "lasting", (4,), [10, 14, 30, 35])
        self.check_from([0, LATEST], "lasting", (LATEST,), [0, LATEST])
        self.check_from([1, LATEST], "lasting", (LATEST,), [])
        self.check_from([1, LATEST], "lasting", (LATEST - 1,), [1, LATEST])
        self.check_from([LATEST], "lasting", (LATEST,), [LATEST])
        self.check_from(PIECES, "lasting", (10,), PIECES)
        self.check_from(PIECES, "lasting", (11,), [])
        self.check_from(ENDLESS, "lasting", (10,), ENDLESS)
        self.check_from(ENDLESS, "lasting", (11,), [620])

    def test_fill(self):
        p = [5, 6, 7, 8, 10, 11, 14]
        self.check_from(p, "fill", (1,), [5, 8, 10, 11, 14])
        self.check_from(p, "fill", (2,), [5, 11, 14])
        self.check_from(p, "fill", (3,), [5])
        self.check_from(p, "fill", (LATEST,), [5])
        self.check_from(p[:-1], "fill", (LATEST,), [5, 11])
        self.check_from([1, 2, 9, 10, 11, 12], "fill", (6,), [1, 2, 9, 12])
        self.check_from([1, 2, 9, 10, 11, 12], "fill", (7,), [1, 12])

    def test_what_is_before_the_first_and_behind_the_last_moment_is_no_gap(self):
        for n in (1, 3, LATEST):
            self.check_from([1, 4], "fill", (n,), [1, 4])
            self.check_from([1], "fill", (n,), [1])
            self.check_from([LATEST], "fill", (n,), [LATEST])
            self.check_from([LATEST - 1, LATEST], "fill", (n,), [LATEST - 1, LATEST])

    def test_fill_at_the_latest_bound(self):
        self.check_from([0, 1, LATEST], "fill", (LATEST - 1,), [0])
        self.check_from([0, 1, LATEST], "fill", (LATEST - 2,), [0, 1, LATEST])
        self.check_from([0, 1, LATEST - 1, LATEST], "fill", (LATEST,), [0, LATEST])

    def test_fill_of_64_and_63_bounds(self):
        self.check_from(PIECES, "fill", (9,), PIECES)
        self.check_from(PIECES, "fill", (10,), [0, 630])
        self.check_from(ENDLESS, "fill", (9,), ENDLESS)
        self.check_from(ENDLESS, "fill", (10,), [0])

    def test_none_of_them_makes_a_bound_too_late_or_too_many(self):
        for p in (many(64, LATEST - 630), many(63, LATEST - 620), many(64, 0, 1)):
            for n in (0, 1, 9, 10, 11, LATEST):
                for name in ("soon", "lasting", "fill"):
                    told = ask(("put", 3, p), (name, 4, 3, n), ("bounds", 4))
                    self.assertEqual(told[1], [told[2][0]], (name, n))


class Every(Case):
    def check_every(self, numbers, result):
        for r in (0, 1, 7):
            self.check_put(BEFORE, ("every", r, *numbers), result)

    def test_stretches(self):
        self.check_every((3, 5, 2, 3), [3, 5, 8, 10, 13, 15])
        self.check_every((0, 2, 1, 4), [0, 1, 2, 3, 4, 5, 6, 7])
        self.check_every((7, 9, 8, 2), [7, 15, 16, 24])

    def test_count_0_and_1(self):
        for numbers in ((0, 1, 1, 0), (3, 5, 2, 0), (LATEST, LATEST, LATEST, 0)):
            self.check_every(numbers, [])
        self.check_every((3, 5, 2, 1), [3, 5])
        self.check_every((3, LATEST, 2, 1), [3, 5])
        self.check_every((3, 5, 5, 1), [3, 8])

    def test_stretches_that_touch(self):
        self.check_every((3, 5, 5, 3), [3, 18])
        self.check_every((0, 1, 1, 32), [0, 32])
        self.check_every((7, 4, 4, 2), [7, 15])

    def test_count_32_has_64_bounds(self):
        self.check_every((0, 20, 10, 32), many(64))
        self.check_every((5, 2, 1, 32), many(64, 5, 1))

    def test_up_to_the_latest_bound(self):
        self.check_every((LATEST - 1, 1, 1, 1), [LATEST - 1, LATEST])
        self.check_every((0, LATEST, LATEST, 1), [0, LATEST])
        self.check_every((0, LATEST - 1, 1, 2), [0, 1, LATEST - 1, LATEST])
        self.check_every((LATEST - 630, 20, 10, 32), many(64, LATEST - 630))
        self.check_every((LATEST - 160, 5, 5, 32), [LATEST - 160, LATEST])

    def test_what_the_register_held_is_gone(self):
        self.check_put([("put", 2, PIECES)], ("every", 2, 1000, 5, 2, 1), [1000, 1002])


if __name__ == "__main__":
    unittest.main()
