"""The signs of numbers: promises 2, 3 (as few as can be) and 6."""

import itertools
import unittest

from shiftsums.signs import least, signs, value_of

SMALL = range(-2100, 2101)
SIXTY = (10 ** 59, 10 ** 60 - 1, 123456789012345678901234567890123456789012345678901234567890)
LONGER = (2 ** 300 - 1, 2 ** 301 // 3, 10 ** 120 + 7, 10 ** 3999, 10 ** 4000 - 1)
LONG = [sign * number for number in SIXTY + LONGER for sign in (1, -1)]


def plain_value(digits):
    return sum(digit * 2 ** place for place, digit in enumerate(digits))


def count_of(digits):
    return sum(1 for digit in digits if digit != 0)


def parted(digits):
    return all(one == 0 or other == 0 for one, other in zip(digits, digits[1:]))


def fewest_powers(highest, most):
    """For each number: how few signed powers of two, each as often as one likes, come to it."""
    powers = [sign * 2 ** place for place in range(highest + 1) for sign in (1, -1)]
    counts = {0: 0}
    newest = [0]
    for count in range(1, most + 1):
        sums = sorted({number + power for number in newest for power in powers})
        newest = [number for number in sums if number not in counts]
        counts.update((number, count) for number in newest)
    return counts


class Signs(unittest.TestCase):
    def hold(self, number):
        told = signs(number)
        self.assertIs(type(told), list)
        for digit in told:
            self.assertIs(type(digit), int)
            self.assertIn(digit, (-1, 0, 1))
        self.assertEqual(plain_value(told), number)
        self.assertTrue(parted(told))
        if number != 0:
            self.assertNotEqual(told[-1], 0)

    def test_nought(self):
        self.assertEqual(signs(0), [])

    def test_told_by_hand(self):
        rows = {
            1: [1], -1: [-1], 2: [0, 1], 3: [-1, 0, 1], -3: [1, 0, -1], 5: [1, 0, 1], 6: [0, -1, 0, 1],
            7: [-1, 0, 0, 1], -7: [1, 0, 0, -1], 11: [-1, 0, -1, 0, 1], 13: [1, 0, -1, 0, 1],
        }
        for number, told in rows.items():
            self.assertEqual(signs(number), told)

    def test_small_numbers(self):
        for number in SMALL:
            self.hold(number)

    def test_long_numbers(self):
        for number in LONG:
            self.hold(number)

    def test_the_only_such_digits(self):
        for places in range(9):
            for digits in itertools.product((-1, 0, 1), repeat=places):
                if parted(digits) and (places == 0 or digits[-1] != 0):
                    self.assertEqual(signs(plain_value(digits)), list(digits))

    def test_a_told_list_is_the_askers_own(self):
        for number in (0, 1, 7, -7, 10 ** 59):
            first = signs(number)
            kept = list(first)
            first.append(1)
            first[0] = 5
            self.assertEqual(signs(number), kept)
            self.assertEqual(value_of(signs(number)), number)
            self.assertEqual(least(number), count_of(kept))

    def test_a_told_list_is_not_changed_later(self):
        first = signs(11)
        signs(11).clear()
        signs(10 ** 59)
        least(11)
        value_of(first)
        self.assertEqual(first, [-1, 0, -1, 0, 1])

    def test_by_name(self):
        self.assertEqual(signs(number=7), [-1, 0, 0, 1])


class ValueOf(unittest.TestCase):
    def test_the_empty_list(self):
        self.assertEqual(value_of([]), 0)
        self.assertIs(type(value_of([])), int)

    def test_told_by_hand(self):
        for digits, value in (([1], 1), ([-1], -1), ([0], 0), ([0, 1], 2), ([1, 1], 3), ([-1, -1, -1], -7), ([1, -1], -1)):
            self.assertEqual(value_of(digits), value)

    def test_all_digits_of_few_places(self):
        for places in range(8):
            for digits in itertools.product((-1, 0, 1), repeat=places):
                self.assertEqual(value_of(list(digits)), plain_value(digits))

    def test_noughts_at_the_end(self):
        self.assertEqual(value_of([0, 0, 0]), 0)
        self.assertEqual(value_of([0] * 300), 0)
        for number in (1, -1, 7, -1000, 10 ** 59):
            self.assertEqual(value_of(signs(number) + [0]), number)
            self.assertEqual(value_of(signs(number) + [0] * 90), number)

    def test_some_hundred_digits(self):
        self.assertEqual(value_of([1] * 300), 2 ** 300 - 1)
        self.assertEqual(value_of([-1] * 300), 1 - 2 ** 300)
        self.assertEqual(value_of([0] * 299 + [-1]), -(2 ** 299))
        for step in (1, 2, 5, 7):
            digits = [(place * place // step) % 3 - 1 for place in range(300)]
            self.assertEqual(value_of(digits), plain_value(digits))

    def test_what_is_handed_in_stays(self):
        for digits in ([], [0, 0], [1, -1, 0, 1, 0], [1] * 300):
            kept = list(digits)
            value_of(digits)
            self.assertEqual(digits, kept)

    def test_a_change_behind_the_call_changes_no_later_answer(self):
        digits = [1, 1]
        self.assertEqual(value_of(digits), 3)
        digits.append(1)
        self.assertEqual(value_of(digits), 7)
        self.assertEqual(value_of([1, 1]), 3)

    def test_of_the_signs_of_a_number(self):
        for number in [*SMALL, *LONG]:
            self.assertEqual(value_of(signs(number)), number)

    def test_by_name(self):
        self.assertEqual(value_of(digits=[-1, 0, 0, 1]), 7)


class Least(unittest.TestCase):
    def test_nought(self):
        self.assertEqual(least(0), 0)

    def test_told_by_hand(self):
        for number, told in ((1, 1), (-1, 1), (4096, 1), (3, 2), (7, 2), (-7, 2), (11, 3), (43, 4), (2 ** 300 - 1, 2)):
            self.assertEqual(least(number), told)
            self.assertIs(type(least(number)), int)

    def test_how_many_of_the_signs(self):
        for number in [*SMALL, *LONG]:
            self.assertEqual(least(number), count_of(signs(number)))

    def test_no_fewer_powers_of_two(self):
        # 683 is the least number whose least is 6, so six powers reach each number gone through here.
        counts = fewest_powers(highest=12, most=6)
        for number in range(-1100, 1101):
            self.assertEqual(least(number), counts[number], number)
            self.assertEqual(count_of(signs(number)), counts[number], number)

    def test_no_digits_have_fewer(self):
        for places in range(9):
            for digits in itertools.product((-1, 0, 1), repeat=places):
                self.assertLessEqual(least(plain_value(digits)), count_of(digits))

    def test_by_name(self):
        self.assertEqual(least(number=7), 2)


if __name__ == "__main__":
    unittest.main()
