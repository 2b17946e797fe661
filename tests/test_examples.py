"""The examples that the document gives, so far as they speak of the calls that are there."""

import unittest

from tests.helper import Case, ask, text_in

BEFORE = (("add", 0, 3, 7), ("open", 0, 9))


class Examples(Case):
    def test_add_and_open(self):
        self.assertEqual(ask(*BEFORE, ("bounds", 0)), [[2], [3], [3, 3, 7, 9]])

    def test_recent(self):
        self.check_put(BEFORE, ("recent", 1, 0, 1), [3, 8, 9])
        self.check_put(BEFORE, ("recent", 1, 0, 2), [3])

    def test_steady(self):
        self.check_put(BEFORE, ("steady", 1, 0, 2), [5, 7, 11])

    def test_the_text_of_a_set(self):
        told = ask(("put", 0, [3, 7, 9, 10, 12]), ("show", 0))
        self.assertEqual(text_in(told[1]), "3..7 9 12..")

    def test_bounds_tell_moments(self):
        told = ask(("read", 0, "3 4 5 6 9.."), ("bounds", 0))
        self.assertEqual(told[1], [3, 3, 7, 9])

    def test_1000000000_is_of_the_form_but_its_set_is_refused(self):
        self.check_refused([], ("read", 0, "1000000000"), -5)


if __name__ == "__main__":
    unittest.main()
