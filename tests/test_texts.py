"""put, read, bounds and show: promises 2, 3 and 15."""

import random
import re
import unittest

from tests.helper import EIGHT, HUGE, LATEST, Case, ask, bounds_where, holds, many, put_all, small_sets, text_in

BEFORE = put_all(EIGHT)


class Put(Case):
    def test_lists_of_the_form(self):
        for bounds in ([], [0], [LATEST], [0, LATEST], [3, 7, 9], [5, 6], many(63), many(64)):
            self.check_put(BEFORE, ("put", 0, bounds), bounds)

    def test_numbers_out_of_range(self):
        for bounds in ([-1], [-HUGE, 3], [LATEST + 1], [3, LATEST + 1], [3, HUGE], [3, -1], [-1, 3]):
            self.check_refused(BEFORE, ("put", 0, bounds), -2)

    def test_numbers_that_are_not_greater_than_the_one_before(self):
        for bounds in ([0, 0], [3, 3], [7, 3], [1, 2, 2], [1, 2, 3, 1], [LATEST, LATEST], [5, 0]):
            self.check_refused(BEFORE, ("put", 0, bounds), -2)

    def test_many_numbers(self):
        self.check_refused(BEFORE, ("put", 0, many(65)), -6)
        self.check_refused(BEFORE, ("put", 0, many(200)), -6)
        self.check_refused(BEFORE, ("put", 0, many(199) + [1980]), -2)


class Read(Case):
    def check_texts(self, texts, bounds):
        for text in texts:
            self.check_put(BEFORE, ("read", 0, text), bounds)

    def check_not_of_the_form(self, texts):
        for text in texts:
            self.check_refused(BEFORE, ("read", 0, text), -2)

    def test_never_and_always(self):
        self.check_texts(["never", " never", "never  ", "   never "], [])
        self.check_texts(["always", " always", "always  ", "   always "], [0])

    def test_never_and_always_beside_another_word(self):
        self.check_not_of_the_form([
            "never never", "always always", "never always", "never 3", "3 never", "always 3", "3.. always",
        ])

    def test_words_like_never_and_always(self):
        self.check_not_of_the_form([
            "Never", "ALWAYS", "neve", "nevers", "alway", "always.", "never..", "ne ver", "x", "nev\0er",
        ])

    def test_pieces(self):
        self.check_texts(["3"], [3, 4])
        self.check_texts(["0"], [0, 1])
        self.check_texts(["3..7"], [3, 7])
        self.check_texts(["3..4"], [3, 4])
        self.check_texts(["3.."], [3])
        self.check_texts(["0.."], [0])
        self.check_texts(["0..1000000000"], [0, LATEST])
        self.check_texts(["999999999"], [LATEST - 1, LATEST])
        self.check_texts(["1000000000.."], [LATEST])
        self.check_texts(["3..7 9 12.."], [3, 7, 9, 10, 12])

    def test_blanks(self):
        self.check_texts(["3..7 9", " 3..7 9", "3..7   9", "3..7 9 ", "   3..7  9    "], [3, 7, 9, 10])

    def test_other_bytes_are_no_blanks(self):
        self.check_not_of_the_form(["3\t4", "3\n", "\r3", "3\0", "3\xa04", "3,4", "\x0b", "3\x1f4"])

    def test_every_byte_as_a_word(self):
        for byte in range(256):
            if 48 <= byte <= 57:
                self.check_put([], ("read", 0, [byte]), [byte - 48, byte - 47])
            else:
                self.check_refused([], ("read", 0, [byte]), -2)

    def test_every_byte_behind_a_digit(self):
        for byte in range(256):
            if 48 <= byte <= 57:
                self.check_put([], ("read", 0, [49, byte]), [byte - 38, byte - 37])
            elif byte == 32:
                self.check_put([], ("read", 0, [49, byte]), [1, 2])
            else:
                self.check_refused([], ("read", 0, [49, byte]), -2)

    def test_a_text_without_words(self):
        self.check_not_of_the_form(["", " ", "     ", " " * 1000])

    def test_1000_bytes_and_1001(self):
        for word, bounds in (("5", [5, 6]), ("never", []), ("always", [0]), ("3..", [3])):
            self.check_texts([word.ljust(1000), word.rjust(1000)], bounds)
            self.check_not_of_the_form([word.ljust(1001), word.rjust(1001), word.ljust(2000)])
        self.check_texts(["7 " * 500, "7 " * 499 + "7"], [7, 8])

    def test_a_0_before_other_digits(self):
        self.check_not_of_the_form(["00", "03", "007", "03..7", "3..07", "00..3", "0..00", "03..", "0..01"])
        self.check_texts(["0..3"], [0, 3])

    def test_numbers_of_many_digits(self):
        self.check_not_of_the_form([
            "1000000001", "3..1000000001", "1000000001..", "10000000000", "9" * 18, "1" + "0" * 999, "9" * 1000,
            "1.." + "9" * 997, "1" * 997 + "..", "0" * 1000,
        ])

    def test_words_that_are_nearly_of_the_form(self):
        self.check_not_of_the_form([
            "3...7", "7..3", "3..3", "..5", "3..7x", "x3..7", "3x..7", "3.7", "3.", ".", "..", "...", "3...",
            "3..7..", "3..7..9", "3....7", ".3", "3..7.", "-3", "+3", "3..-7", "-3..7", "3-7", "0..0", "0x3",
            "3 ..7", "3.. ..7", "3 .. 7", "3. .7", "1_0", "1e3", "3.x7", "3.77", "1000000000..1000000000",
        ])

    def test_one_wrong_word_among_good_ones(self):
        self.check_not_of_the_form(["3 4 5..5", "x 3", "3 x 4", "0.. 7..3", "1 2 3 ..", "3..7 03"])

    def test_pieces_in_any_order_that_overlap_and_touch(self):
        self.check_texts(["3..5 5..7", "5..7 3..5", "3 4 5 6", "6 5 4 3", "3..7 4 5", "3..6 4..7", "3..7 3..7"], [3, 7])
        self.check_texts(["9.. 3..7", "3..7 9.. 12..", "12.. 9..12 3..7", "9.. 20..30 3..7 10.. 3"], [3, 7, 9])
        self.check_texts(["1.. 0", "0.. 5", "5 0..", "0..5 5.."], [0])
        self.check_texts(["9 5 7"], [5, 6, 7, 8, 9, 10])
        self.check_texts(["2..9 3..4 8..12"], [2, 12])

    def test_a_thousand_million(self):
        for text in ("1000000000", "3 1000000000", "1000000000 1000000000", "999999999 1000000000",
                     "5..1000000000 1000000000", "1000000000 0..3"):
            self.check_refused(BEFORE, ("read", 0, text), -5)
        self.check_texts(["1000000000 1000000000..", "1000000000.. 1000000000"], [LATEST])
        self.check_texts(["1000000000 3..", "3.. 1000000000", "3..9 1000000000 7.."], [3])

    def test_64_bounds_and_more(self):
        self.check_texts([" ".join(str(2 * k) for k in range(32))], many(64, 0, 1))
        self.check_texts([" ".join(str(2 * k) for k in range(31)) + " 62.."], many(63, 0, 1))
        self.check_refused(BEFORE, ("read", 0, " ".join(str(2 * k) for k in range(32)) + " 64.."), -6)
        self.check_refused(BEFORE, ("read", 0, " ".join(str(2 * k) for k in range(33))), -6)
        text = " ".join(str(2 * k) for k in reversed(range(33))) + " 17"
        self.check_texts([text], [bound for bound in many(66, 0, 1) if bound not in (17, 18)])

    def test_random_texts(self):
        source = random.Random(1)
        parts = ["0", "1", "2", "3", "7", "9", "..", "..", ".", " ", " ", " ", "10", "x"]
        whole = 0
        for turn in range(3000):
            text = "".join(source.choice(parts) for part in range(source.randint(0, 7)))
            bounds = bounds_of_text(text)
            told = ask(("read", 0, text), ("bounds", 0))
            if bounds is None:
                self.assertEqual(told, [[-2], [0]], text)
            else:
                whole += 1
                self.assertEqual(told, [[len(bounds)], [len(bounds)] + bounds], text)
        self.assertTrue(300 < whole < 2700, whole)


PIECE = re.compile(r"(0|[1-9][0-9]*)(?:(\.\.)(0|[1-9][0-9]*)?)?")


def bounds_of_text(text):
    """The bounds that a text of small numbers tells, asked of every moment; None if not of the form."""
    pieces = []
    for word in [word for word in text.split(" ") if word]:
        found = PIECE.fullmatch(word)
        if not found:
            return None
        begin = int(found[1])
        if not found[2]:
            pieces.append((begin, begin + 1))
        elif not found[3]:
            pieces.append((begin, 10 ** 15))
        elif int(found[3]) > begin:
            pieces.append((begin, int(found[3])))
        else:
            return None
    if not pieces:
        return None
    near = sorted({bound for piece in pieces for bound in piece if bound < 10 ** 15})
    inside = [any(begin <= bound < end for begin, end in pieces) for bound in near]
    return [bound for k, bound in enumerate(near) if inside[k] != (k > 0 and inside[k - 1])]


class Bounds(Case):
    def test_of_the_eight(self):
        told = ask(*BEFORE, *[("bounds", r) for r in range(8)])
        self.assertEqual(told[8:], [[len(bounds)] + bounds for bounds in EIGHT])

    def test_asking_changes_nothing(self):
        for name in ("bounds", "show"):
            told = ask(*BEFORE, (name, 3), *[("bounds", r) for r in range(8)])
            self.assertEqual(told[9:], [[len(bounds)] + bounds for bounds in EIGHT])


class Show(Case):
    def check_shown(self, bounds, text):
        told = ask(("put", 2, bounds), ("show", 2))
        self.assertEqual(told[1], [len(text)] + [ord(sign) for sign in text])

    def test_never_and_always(self):
        self.check_shown([], "never")
        self.check_shown([0], "always")

    def test_pieces(self):
        self.check_shown([0, 1], "0")
        self.check_shown([0, 2], "0..2")
        self.check_shown([1], "1..")
        self.check_shown([0, 1, 2], "0 2..")
        self.check_shown([10, 100], "10..100")
        self.check_shown([3, 7, 9], "3..7 9..")
        self.check_shown([3, 7, 9, 10], "3..7 9")
        self.check_shown([LATEST], "1000000000..")
        self.check_shown([0, LATEST], "0..1000000000")
        self.check_shown([LATEST - 1, LATEST], "999999999")

    def test_64_bounds(self):
        bounds = many(64, LATEST - 630, 10)
        text = " ".join(f"{bounds[k]}..{bounds[k + 1]}" for k in range(0, 64, 2))
        self.check_shown(bounds, text)

    def test_small_sets_are_read_as_they_are_shown(self):
        for bounds in small_sets(6):
            told = ask(("put", 2, bounds), ("show", 2))
            text = text_in(told[1])
            self.assertNotIn("  ", text)
            self.check_put([], ("read", 5, text), bounds)
            if bounds not in ([], [0]):
                moments = bounds_where(lambda t: holds(bounds_of_text(text), t), 20)
                self.assertEqual(moments, bounds)


if __name__ == "__main__":
    unittest.main()
