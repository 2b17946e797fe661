"""allen: promise 22."""

import unittest

from tests.helper import EIGHT, LATEST, Case, all_bounds, ask, many, put_all

FOR_EVER = 10 ** 30


def lies(p, q):
    """The numbers of all that the promise says and that are so."""
    a, b = (*p, FOR_EVER)[:2]
    c, d = (*q, FOR_EVER)[:2]
    said = (
        b < c, b == c, a < c < b < d, a == c and b < d, c < a and b < d, c < a and b == d, a == c and b == d,
        a < c and b == d, a < c and d < b, a == c and d < b, c < a < d < b, d == a, d < a,
    )
    return [number for number, so in enumerate(said, 1) if so]


class Allen(Case):
    def check_lie(self, p, q, number):
        self.assertEqual(ask(("put", 3, p), ("put", 6, q), ("allen", 3, 6))[2], [number], (p, q))

    def test_each_number(self):
        self.check_lie([1, 3], [5, 9], 1)
        self.check_lie([1, 5], [5, 9], 2)
        self.check_lie([1, 6], [5, 9], 3)
        self.check_lie([5, 6], [5, 9], 4)
        self.check_lie([6, 8], [5, 9], 5)
        self.check_lie([6, 9], [5, 9], 6)
        self.check_lie([5, 9], [5, 9], 7)
        self.check_lie([1, 9], [5, 9], 8)
        self.check_lie([1, 12], [5, 9], 9)
        self.check_lie([5, 12], [5, 9], 10)
        self.check_lie([6, 12], [5, 9], 11)
        self.check_lie([9, 12], [5, 9], 12)
        self.check_lie([10, 12], [5, 9], 13)

    def test_pieces_that_never_end(self):
        self.check_lie([0], [0], 7)
        self.check_lie([0], [LATEST], 8)
        self.check_lie([LATEST], [0], 6)
        self.check_lie([0, LATEST], [0], 4)
        self.check_lie([0], [0, LATEST], 10)
        self.check_lie([0, LATEST], [LATEST], 2)
        self.check_lie([LATEST], [0, LATEST], 12)
        self.check_lie([5, LATEST], [3], 5)
        self.check_lie([3], [5, LATEST], 9)

    def test_all_small_pieces(self):
        pieces = [[a] for a in range(5)] + [[a, b] for a in range(5) for b in range(a + 1, 6)]
        seen = []
        for p in pieces:
            for q in pieces:
                so = lies(p, q)
                self.assertEqual(len(so), 1)
                self.check_lie(p, q, so[0])
                seen += so
        self.assertEqual(set(seen), set(range(1, 14)))

    def test_a_set_with_itself(self):
        self.assertEqual(ask(("put", 2, [3, 7]), ("allen", 2, 2))[1], [7])

    def test_not_just_one_piece(self):
        for wrong in ([], [3, 7, 9], [3, 7, 9, 12], many(63), many(64)):
            before = [*put_all(EIGHT), ("put", 1, wrong)]
            for other in (2, 3, 1):
                self.check_refused(before, ("allen", 1, other), -3)
                self.check_refused(before, ("allen", other, 1), -3)

    def test_asking_changes_nothing(self):
        told = ask(*put_all(EIGHT), ("allen", 2, 3), *all_bounds())
        self.assertEqual(told[8:], [[10]] + [[len(bounds)] + bounds for bounds in EIGHT])


if __name__ == "__main__":
    unittest.main()
