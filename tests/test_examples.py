"""The examples that the document gives."""

import unittest

from tests.helper import Case, ask, text_in

BEFORE = (("add", 0, 3, 7), ("open", 0, 9))


class Examples(Case):
    def test_add_and_open(self):
        self.assertEqual(ask(*BEFORE, ("bounds", 0)), [[2], [3], [3, 3, 7, 9]])

    def test_recent(self):
        self.check_put(BEFORE, ("recent", 1, 0, 1), [3, 8, 9])
        self.check_put(BEFORE, ("recent", 1, 0, 2), [3])

    def test_steady(self):
        self.check_put(BEFORE, ("steady", 1, 0, 2), [5, 7, 11])

    def test_soon(self):
        self.check_put(BEFORE, ("soon", 1, 0, 2), [1])

    def test_lasting(self):
        self.check_put(BEFORE, ("lasting", 1, 0, 5), [9])

    def test_fill(self):
        self.check_put(BEFORE, ("fill", 1, 0, 2), [3])
        self.check_put(BEFORE, ("fill", 1, 0, 1), [3, 7, 9])

    def test_nth_rank_prev_next(self):
        self.check_asked(BEFORE, ("nth", 0, 4), [9])
        self.check_asked(BEFORE, ("rank", 0, 10), [5])
        self.check_asked(BEFORE, ("prev", 0, 8), [6])
        self.check_asked(BEFORE, ("next", 0, 7), [9])

    def test_two_pieces(self):
        self.check_asked(BEFORE, ("pieces", 0), [2, 1])
        self.check_asked(BEFORE, ("piece", 0, 0), [0, 3, 7])
        self.check_asked(BEFORE, ("piece", 0, 1), [1, 9])

    def test_the_moments_that_3_7_9_tell(self):
        told = ask(*BEFORE, *[("has", 0, t) for t in range(15)])
        self.assertEqual([t for t in range(15) if told[2 + t] == [1]], [3, 4, 5, 6, 9, 10, 11, 12, 13, 14])

    def test_hull_of_never_and_of_an_endless_set(self):
        self.check_put(BEFORE, ("hull", 1, 2), [])
        self.check_put(BEFORE, ("hull", 1, 0), [3])

    def test_the_text_of_a_set(self):
        told = ask(("put", 0, [3, 7, 9, 10, 12]), ("show", 0))
        self.assertEqual(text_in(told[1]), "3..7 9 12..")

    def test_bounds_tell_moments(self):
        told = ask(("read", 0, "3 4 5 6 9.."), ("bounds", 0))
        self.assertEqual(told[1], [3, 3, 7, 9])

    def test_1000000000_is_of_the_form_but_its_set_is_refused(self):
        self.check_refused([], ("read", 0, "1000000000"), -5)


if __name__ == "__main__":
    unittest.main()
