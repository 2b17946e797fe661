"""relate: promise 21."""

import unittest

from tests.helper import EIGHT, LATEST, Case, ask, holds, many, put_all, small_sets

BEFORE = put_all(EIGHT)
SETS = small_sets(4)
FAR = 10


def sum_of_parts(p, q):
    """The sum, told from the moments one by one; from FAR on nothing changes."""
    seen = {(holds(p, t), holds(q, t)) for t in range(FAR)}
    worth = {(True, False): 1, (False, True): 2, (True, True): 4, (False, False): 8}
    return sum(worth[pair] for pair in seen)


class Relate(Case):
    def check_related(self, p, q, total):
        self.check_asked([*BEFORE, ("put", 3, p), ("put", 6, q)], ("relate", 3, 6), [total])

    def test_each_part_alone(self):
        self.check_related([0], [], 1)
        self.check_related([], [0], 2)
        self.check_related([0], [0], 4)
        self.check_related([], [], 8)

    def test_two_parts(self):
        self.check_related([0, 5], [5], 3)
        self.check_related([0], [5], 5)
        self.check_related([5], [0], 6)
        self.check_related([5], [], 9)
        self.check_related([], [5], 10)
        self.check_related([5], [5], 12)

    def test_three_and_four_parts(self):
        self.check_related([0, 7], [5], 7)
        self.check_related([3, 5], [5, 9], 11)
        self.check_related([3, 9], [5, 7], 13)
        self.check_related([5, 7], [3, 9], 14)
        self.check_related([3, 7], [5, 9], 15)

    def test_a_single_moment_is_seen(self):
        self.check_related([0], [0, LATEST - 1, LATEST], 5)
        self.check_related([0, LATEST - 1, LATEST], [0, LATEST - 1, LATEST], 12)
        self.check_related([0, LATEST], [LATEST], 3)
        self.check_related([0, LATEST], [LATEST - 1], 7)
        self.check_related([1], [1], 12)
        self.check_related([LATEST], [0, LATEST], 3)
        self.check_related([LATEST], [LATEST], 12)

    def test_64_bounds(self):
        self.check_related(many(64), many(64), 12)
        self.check_related(many(64), many(64, 5), 15)
        self.check_related(many(64), many(64, 10), 11)
        self.check_related(many(63), many(62, 10), 3)
        self.check_related(many(63), [0], 6)

    def test_one_register_for_both(self):
        for r, bounds in enumerate(EIGHT):
            total = {(): 8, (0,): 4}.get(tuple(bounds), 12)
            self.check_asked(BEFORE, ("relate", r, r), [total])

    def test_all_small_sets(self):
        totals = []
        for p in SETS:
            told = ask(("put", 3, p), *[call for q in SETS for call in (("put", 6, q), ("relate", 3, 6))])
            expected = [[sum_of_parts(p, q)] for q in SETS]
            self.assertEqual(told[2::2], expected, p)
            totals += [total[0] for total in expected]
        self.assertEqual(set(totals), set(range(1, 16)))


if __name__ == "__main__":
    unittest.main()
