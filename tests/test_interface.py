"""The one list of calls, the one list of answers, and what is not kept."""

import unittest

from momentsets.refusals import UnknownCall
from momentsets.registers import answers
from tests.helper import CALLS, EIGHT, HUGE, Case, all_bounds, ask, line, many, put_all

# Each call from 0 to 36 as it stands in the list, and behind it what it answers there.
ALL_CALLS = (
    ([0, 0], [1, 0]),
    ([1, 0, 3, 3, 7, 9], [1, 3]),
    ([2, 0], [4, 3, 3, 7, 9]),
    ([3, 1, 7, 53, 46, 46, 56, 32, 49, 50], [1, 4]),
    ([4, 1], [8, 7, 53, 46, 46, 56, 32, 49, 50]),
    ([5, 2, 1, 4], [1, 2]),
    ([6, 2, 10], [1, 3]),
    ([7, 2, 2, 3], [1, 5]),
    ([8, 2, 20], [1, 6]),
    ([9, 2, 3], [1, 5]),
    ([10, 3, 0, 1], [1, 3]),
    ([11, 4, 0, 1], [1, 4]),
    ([12, 5, 0, 1], [1, 5]),
    ([13, 6, 0, 1], [1, 7]),
    ([14, 7, 0], [1, 4]),
    ([15, 7, 0, 2], [1, 3]),
    ([16, 7, 0, 7], [1, 1]),
    ([17, 7, 0, 1], [1, 3]),
    ([18, 7, 1, 2], [1, 2]),
    ([19, 7, 0, 2], [1, 1]),
    ([20, 6, 1], [1, 2]),
    ([21, 4, 1], [1, 2]),
    ([22, 5, 0, 5], [1, 1]),
    ([23, 3, 0, 1], [1, 3]),
    ([24, 7, 1, 4, 2, 3], [1, 6]),
    ([25, 7, 5], [1, 1]),
    ([26, 7], [1, 1]),
    ([27, 7], [1, 10]),
    ([28, 7], [1, 6]),
    ([29, 7, 3], [1, 5]),
    ([30, 7, 8], [1, 6]),
    ([31, 7, 4], [1, 9]),
    ([32, 7, 6], [1, 3]),
    ([33, 7], [2, 3, 0]),
    ([34, 7, 1], [3, 0, 5, 7]),
    ([35, 0, 1], [1, 15]),
    ([36, 6, 5], [1, 3]),
)


def one_of_each():
    return put_all(EIGHT) + [
        ("clear", 6), ("put", 1, [5, 3]), ("put", 1, many(64)), ("bounds", 1),
        ("read", 6, " 4  2..3 "), ("read", 6, "3...7"), ("show", 6), ("add", 6, 5, 9), ("open", 6, 20),
        ("cut", 6, 7, 8), ("stop", 6, 30), ("flip", 6, 25), ("either", 0, 0, 6), ("both", 2, 2, 5),
        ("less", 2, 2, 6), ("odd", 3, 5, 6), ("other", 4, 4), ("later", 5, 5, 3), ("earlier", 5, 5, 4),
        ("recent", 5, 5, 1), ("steady", 5, 5, 1), ("soon", 5, 5, 1), ("hull", 7, 5), ("gaps", 4, 0),
        ("lasting", 0, 0, 2), ("fill", 0, 0, 1), ("every", 2, 3, 7, 4, 5), ("every", 3, 3, 4, 7, 5),
        ("has", 2, 3), ("has", 2, 2), ("first", 2), ("last", 2), ("last", 0), ("size", 2), ("size", 0),
        ("next", 2, 8), ("prev", 2, 8), ("nth", 2, 8), ("nth", 2, 80), ("rank", 2, 8), ("pieces", 0), ("pieces", 2),
        ("piece", 2, 1), ("piece", 2, 9), ("piece", 5, 0), ("relate", 0, 2), ("allen", 0, 4), ("allen", 7, 7),
        ("later", 7, 7, HUGE), ("clear", HUGE),
    ] + all_bounds()


class TheLists(Case):
    def test_each_answer_stands_behind_how_many_numbers_it_has(self):
        calls = line([("bounds", 0), ("put", 0, [3, 7, 9]), ("bounds", 0), ("show", 0), ("clear", 8), ("clear", 0)])
        self.assertEqual(calls, [2, 0, 1, 0, 3, 3, 7, 9, 2, 0, 4, 0, 0, 8, 0, 0])
        self.assertEqual(answers(calls), [
            1, 0,
            1, 3,
            4, 3, 3, 7, 9,
            9, 8, 51, 46, 46, 55, 32, 57, 46, 46,
            1, -1,
            1, 0,
        ])

    def test_the_numbers_of_the_calls(self):
        told = answers([
            5, 0, 3, 7, 6, 0, 9, 7, 0, 4, 5, 8, 0, 12, 9, 0, 10,
            10, 1, 0, 0, 11, 2, 0, 1, 12, 3, 0, 1, 13, 4, 0, 3, 14, 5, 0,
            15, 6, 0, 2, 16, 7, 0, 3, 17, 1, 0, 1, 18, 2, 0, 1, 3, 4, 1, 53, 36, 4, 4,
        ])
        self.assertEqual(told, [
            1, 2, 1, 3, 1, 5, 1, 6, 1, 7,
            1, 7, 1, 7, 1, 0, 1, 7, 1, 8,
            1, 7, 1, 7, 1, 5, 1, 3, 1, 2, 1, 7,
        ])

    def test_every_call_from_0_to_36(self):
        self.assertEqual([call[0] for call, answer in ALL_CALLS], list(range(37)))
        calls = [number for call, answer in ALL_CALLS for number in call]
        copy = list(calls)
        told = [number for call, answer in ALL_CALLS for number in answer]
        self.assertEqual(answers(calls), told)
        self.assertEqual(calls, copy)
        self.assertEqual(answers(calls), told)
        bounds = answers(calls + [number for r in range(8) for number in (2, r)])[len(told):]
        self.assertEqual(bounds, [
            4, 3, 3, 7, 9,
            5, 4, 5, 8, 12, 13,
            6, 5, 1, 2, 4, 10, 20,
            4, 3, 3, 7, 9,
            3, 2, 8, 12,
            2, 1, 9,
            3, 2, 5, 13,
            7, 6, 1, 3, 5, 7, 9, 11,
        ])

    def test_a_piece_that_never_ends_and_an_endless_set(self):
        self.assertEqual(answers([6, 0, 9, 33, 0, 34, 0, 0, 34, 0, 1]), [1, 1, 2, 1, 1, 2, 1, 9, 1, -3])

    def test_one_of_each_has_each_call(self):
        self.assertEqual({call[0] for call in one_of_each()}, set(CALLS))
        self.assertEqual(sorted(number for number, kinds in CALLS.values()), list(range(37)))

    def test_empty_rows(self):
        self.assertEqual(answers([1, 0, 0, 3, 0, 0, 2, 0]), [1, 0, 1, -2, 1, 0])

    def test_a_refused_call_with_a_row_is_passed_over_whole(self):
        self.assertEqual(answers([1, 9, 3, 0, 0, 0, 2, 0]), [1, -1, 1, 0])
        self.assertEqual(answers([3, -1, 2, 0, 0, 2, 0]), [1, -1, 1, 0])

    def test_each_register_holds_never_at_the_beginning(self):
        self.assertEqual(ask(*all_bounds()), [[0]] * 8)

    def test_whole_numbers_and_lists_alone(self):
        told = answers(line(one_of_each()))
        self.assertIs(type(told), list)
        self.assertEqual({type(number) for number in told}, {int})

    def test_400_calls(self):
        calls = [("add", 0, 3 * place, 3 * place + 1) for place in range(32)]
        calls += [("show", 0)] * (400 - len(calls))
        told = ask(*calls)
        self.assertEqual(told[31], [64])
        self.assertEqual(told[399], told[32])

    def test_a_list_of_16000_numbers(self):
        text = " " * 994 + "always"
        calls = [("read", r % 8, text) for r in range(15)] + [("put", 0, many(200))] * 3 + [("bounds", 0)]
        calls += [("read", 1, "7" * 300)]
        numbers = line(calls)
        self.assertTrue(15500 < len(numbers) <= 16000)
        self.assertEqual(ask(*calls), [[1]] * 15 + [[-6]] * 3 + [[1, 0], [-2]])

    def test_a_number_that_no_call_has(self):
        for number in (-1, 37, HUGE):
            with self.assertRaises(UnknownCall):
                answers([0, 0, number, 0])


class NothingIsChangedOrKept(Case):
    def test_the_list_handed_in_is_the_same_after(self):
        calls = line(one_of_each())
        copy = list(calls)
        answers(calls)
        self.assertEqual(calls, copy)

    def test_the_list_is_not_changed_for_a_while_either(self):
        class Fixed(list):
            def refuse(self, *arguments):
                raise AssertionError("the list handed in was changed")
            __setitem__ = __delitem__ = __iadd__ = append = extend = insert = pop = refuse
            remove = clear = sort = reverse = refuse

        calls = line(one_of_each())
        self.assertEqual(answers(Fixed(calls)), answers(calls))

    def test_a_second_asking_gives_the_same_answers(self):
        calls = line(one_of_each())
        first = answers(calls)
        copy = list(first)
        self.assertEqual(answers(calls), first)
        first.clear()
        self.assertEqual(answers(calls), copy)

    def test_nothing_is_kept_from_one_time_to_the_next(self):
        ask(*put_all(EIGHT))
        self.assertEqual(ask(*all_bounds()), [[0]] * 8)


if __name__ == "__main__":
    unittest.main()
