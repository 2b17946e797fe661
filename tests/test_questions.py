"""has, first, last, size, next, prev, nth, rank, pieces and piece: promises 16 to 20."""

import unittest

from tests.helper import EIGHT, LATEST, Case, ask, holds, many, put_all, small_sets

BEFORE = put_all(EIGHT)
PIECES = many(64, 5)
ENDLESS = many(63, 5)
FAR = 40
SETS = small_sets(6) + [[0, 12], [8, 20], [3, 4, 11, 19], [2, 9, 15], [18]]


def some(found):
    """The answer of a call that may find nothing."""
    return [-3] if found is None else [found]


def pieces_in(moments):
    """The pieces of a set of moments before FAR as tuples: begin, end, or begin alone if it goes on there."""
    begins = [t for t in moments if t - 1 not in moments]
    ends = [t + 1 for t in moments if t + 1 not in moments]
    if ends[-1:] == [FAR]:
        return [*zip(begins, ends[:-1]), (begins[-1],)]
    return list(zip(begins, ends))


def expected_answers(bounds):
    """Each question on a small set with its answer, told from the set's moments one by one."""
    moments = [t for t in range(FAR) if holds(bounds, t)]
    endless = FAR - 1 in moments
    found = {
        ("first", 4): some(min(moments, default=None)),
        ("last", 4): [-4] if endless else some(max(moments, default=None)),
        ("size", 4): [-4] if endless else [len(moments)],
    }
    for t in range(22):
        found["has", 4, t] = [int(t in moments)]
        found["next", 4, t] = some(min([u for u in moments if u >= t], default=None))
        found["prev", 4, t] = some(max([u for u in moments if u <= t], default=None))
        found["rank", 4, t] = [len([u for u in moments if u < t])]
        found["nth", 4, t] = some(next((u for u in moments if sum(v < u for v in moments) == t), None))
    pieces = pieces_in(moments)
    found["pieces", 4] = [len(pieces), int(endless)]
    for i in range(len(pieces) + 2):
        whole = i < len(pieces)
        found["piece", 4, i] = [int(len(pieces[i]) == 1), *pieces[i]] if whole else [-3]
    return found


class MomentByMoment(Case):
    def test_small_sets(self):
        for bounds in SETS:
            expected = expected_answers(bounds)
            told = ask(("put", 4, bounds), *expected, ("bounds", 4))
            self.assertEqual(dict(zip(expected, told[1:-1])), expected, bounds)
            self.assertEqual(told[-1], [len(bounds)] + bounds)


class OneSet(Case):
    def check_on(self, bounds, name, numbers, *answer):
        self.check_asked([*BEFORE, ("put", 6, bounds)], (name, 6, *numbers), list(answer))

    def test_each_register(self):
        for r, bounds in enumerate(EIGHT):
            self.check_asked(BEFORE, ("pieces", r), [(len(bounds) + 1) // 2, len(bounds) % 2])
            self.check_asked(BEFORE, ("first", r), bounds[:1] or [-3])

    def test_has(self):
        for t, inside in ((0, 0), (2, 0), (3, 1), (6, 1), (7, 0), (8, 0), (9, 1), (10, 1), (LATEST, 1)):
            self.check_on([3, 7, 9], "has", (t,), inside)
        for t in (0, 1, LATEST - 1, LATEST):
            self.check_on([], "has", (t,), 0)
            self.check_on([0], "has", (t,), 1)
            self.check_on([LATEST], "has", (t,), int(t == LATEST))
            self.check_on([LATEST - 1, LATEST], "has", (t,), int(t == LATEST - 1))
            self.check_on([0, LATEST], "has", (t,), int(t < LATEST))

    def test_first(self):
        for bounds in ([0], [0, 1], [5], [5, 6], [LATEST], [LATEST - 1, LATEST], [3, 7, 9], PIECES, ENDLESS):
            self.check_on(bounds, "first", (), bounds[0])

    def test_last(self):
        for bounds in ([0, 1], [5, 6], [3, 7], [3, 7, 9, 12], [LATEST - 1, LATEST], [0, LATEST], PIECES):
            self.check_on(bounds, "last", (), bounds[-1] - 1)

    def test_size(self):
        self.check_on([], "size", (), 0)
        self.check_on([5, 6], "size", (), 1)
        self.check_on([3, 7, 9, 12], "size", (), 7)
        self.check_on([0, LATEST], "size", (), LATEST)
        self.check_on([1, LATEST - 1], "size", (), LATEST - 2)
        self.check_on([0, 1, LATEST - 1, LATEST], "size", (), 2)
        self.check_on(PIECES, "size", (), 320)

    def test_next(self):
        for t, found in ((0, 3), (2, 3), (3, 3), (6, 6), (7, 9), (8, 9), (9, 9), (10, 10), (LATEST, LATEST)):
            self.check_on([3, 7, 9], "next", (t,), found)
        for t in (0, 1, LATEST):
            self.check_on([0], "next", (t,), t)
            self.check_on([LATEST], "next", (t,), LATEST)
        for t, found in ((0, 5), (4, 5), (5, 5), (6, -3), (LATEST, -3)):
            self.check_on([5, 6], "next", (t,), found)
        self.check_on([0, LATEST], "next", (LATEST - 1,), LATEST - 1)
        self.check_on([0, LATEST], "next", (LATEST,), -3)
        self.check_on(PIECES, "next", (634,), 634)
        self.check_on(PIECES, "next", (635,), -3)

    def test_prev(self):
        for t, found in ((0, -3), (2, -3), (3, 3), (6, 6), (7, 6), (8, 6), (9, 9), (10, 10), (LATEST, LATEST)):
            self.check_on([3, 7, 9], "prev", (t,), found)
        for t in (0, 1, LATEST):
            self.check_on([0], "prev", (t,), t)
        for t, found in ((0, -3), (4, -3), (5, 5), (6, 5), (LATEST, 5)):
            self.check_on([5, 6], "prev", (t,), found)
        self.check_on([LATEST], "prev", (LATEST,), LATEST)
        self.check_on([LATEST], "prev", (LATEST - 1,), -3)
        self.check_on([0, LATEST], "prev", (LATEST,), LATEST - 1)
        self.check_on([0, 1, LATEST], "prev", (LATEST - 1,), 0)
        self.check_on(PIECES, "prev", (LATEST,), 634)

    def test_nth(self):
        for n, found in ((0, 3), (3, 6), (4, 9), (5, 10), (LATEST, LATEST + 5)):
            self.check_on([3, 7, 9], "nth", (n,), found)
        for n, found in ((0, 3), (3, 6), (4, 9), (6, 11), (7, -3), (LATEST, -3)):
            self.check_on([3, 7, 9, 12], "nth", (n,), found)
        self.check_on([5, 6], "nth", (0,), 5)
        self.check_on([5, 6], "nth", (1,), -3)
        self.check_on(PIECES, "nth", (319,), 634)
        self.check_on(PIECES, "nth", (320,), -3)

    def test_nth_above_the_latest_bound(self):
        self.check_on([0], "nth", (LATEST,), LATEST)
        self.check_on([1], "nth", (LATEST,), LATEST + 1)
        self.check_on([LATEST], "nth", (0,), LATEST)
        self.check_on([LATEST], "nth", (1,), LATEST + 1)
        self.check_on([LATEST], "nth", (LATEST,), 2 * LATEST)
        self.check_on([0, LATEST], "nth", (LATEST - 1,), LATEST - 1)
        self.check_on([0, LATEST], "nth", (LATEST,), -3)

    def test_rank(self):
        for t, count in ((0, 0), (3, 0), (4, 1), (7, 4), (8, 4), (9, 4), (10, 5), (LATEST, LATEST - 5)):
            self.check_on([3, 7, 9], "rank", (t,), count)
        for t in (0, 1, LATEST):
            self.check_on([], "rank", (t,), 0)
            self.check_on([0], "rank", (t,), t)
            self.check_on([0, LATEST], "rank", (t,), t)
            self.check_on([LATEST], "rank", (t,), 0)
        for t, count in ((4, 0), (5, 0), (6, 1), (LATEST, 1)):
            self.check_on([5, 6], "rank", (t,), count)
        self.check_on(PIECES, "rank", (LATEST,), 320)
        self.check_on(ENDLESS, "rank", (1000,), 310 + 375)

    def test_pieces(self):
        self.check_on([], "pieces", (), 0, 0)
        self.check_on([0], "pieces", (), 1, 1)
        self.check_on([LATEST], "pieces", (), 1, 1)
        self.check_on([5, 6], "pieces", (), 1, 0)
        self.check_on([3, 7, 9], "pieces", (), 2, 1)
        self.check_on([3, 7, 9, 12], "pieces", (), 2, 0)
        self.check_on(PIECES, "pieces", (), 32, 0)
        self.check_on(ENDLESS, "pieces", (), 32, 1)

    def test_piece(self):
        self.check_on([0], "piece", (0,), 1, 0)
        self.check_on([0], "piece", (1,), -3)
        self.check_on([LATEST], "piece", (0,), 1, LATEST)
        self.check_on([5, 6], "piece", (0,), 0, 5, 6)
        self.check_on([5, 6], "piece", (1,), -3)
        self.check_on([0, LATEST], "piece", (0,), 0, 0, LATEST)
        self.check_on([3, 7, 9], "piece", (1,), 1, 9)
        self.check_on([3, 7, 9], "piece", (2,), -3)
        self.check_on([3, 7, 9, 12], "piece", (1,), 0, 9, 12)
        self.check_on([3, 7, 9, 12], "piece", (2,), -3)
        self.check_on([3, 7, 9, 12], "piece", (LATEST,), -3)

    def test_the_last_of_32_pieces(self):
        self.check_on(PIECES, "piece", (31,), 0, 625, 635)
        self.check_on(PIECES, "piece", (32,), -3)
        self.check_on(ENDLESS, "piece", (31,), 1, 625)
        self.check_on(ENDLESS, "piece", (32,), -3)

    def test_a_refused_set_of_65_bounds_is_not_asked_of(self):
        before = [*BEFORE, ("put", 6, PIECES), ("put", 6, many(65))]
        self.check_asked(before, ("pieces", 6), [32, 0])
        self.check_asked(before, ("size", 6), [320])
        self.check_asked(before, ("has", 6, 4), [0])


if __name__ == "__main__":
    unittest.main()
