"""Whole numbers, cores and shifted numbers: promises 2, 4 and 5."""

import copy
import unittest

from shiftsums.numbers import core, is_whole, shifted

SIXTY = (10 ** 59, 10 ** 60 - 1, 123456789012345678901234567890123456789012345678901234567890)
FOUR_THOUSAND = (10 ** 3999, 10 ** 4000 - 1, 7 * 2 ** 13000)


def of_either_sign(numbers):
    return [sign * number for number in numbers for sign in (1, -1)]


class IsWhole(unittest.TestCase):
    def test_whole_numbers_of_any_size_and_sign(self):
        for number in [0, *of_either_sign((1, 2, 3, 255, 256, 257, 2 ** 63, 2 ** 64) + SIXTY + FOUR_THOUSAND)]:
            self.assertIs(is_whole(number), True)

    def test_truths_are_none(self):
        self.assertIs(is_whole(True), False)
        self.assertIs(is_whole(False), False)

    def test_other_things_are_none(self):
        things = (
            None, "", "1", "-7", "one\ntwo", [], [1], (), (1,), (0, 0, 0), {}, {1: 1}, {"a": [0]},
            [[[[1]]]], ((((1,),),),), {0: {1: {2: {3: 4}}}}, [1, (2, {3: [4]})], [True], (False,), [None],
        )
        for thing in things:
            self.assertIs(is_whole(thing), False, repr(thing))

    def test_what_is_handed_in_stays(self):
        for thing in ([1, [2, (3, {4: [5]})]], {"a": [1, {2: (3,)}]}, ([1], {2: [3]})):
            kept = copy.deepcopy(thing)
            is_whole(thing)
            self.assertEqual(thing, kept)

    def test_by_name(self):
        self.assertIs(is_whole(thing=5), True)


class Core(unittest.TestCase):
    def hold(self, number):
        told = core(number)
        self.assertIs(type(told), tuple)
        self.assertEqual([type(part) for part in told], [int, int, int])
        odd, shift, sign = told
        self.assertEqual(odd * 2 ** shift * sign, number)
        self.assertEqual(odd % 2, 1)
        self.assertGreaterEqual(odd, 1)
        self.assertGreaterEqual(shift, 0)
        self.assertIn(sign, (1, -1))

    def test_nought(self):
        told = core(0)
        self.assertEqual(told, (0, 0, 0))
        self.assertIs(type(told), tuple)
        self.assertEqual([type(part) for part in told], [int, int, int])

    def test_told_by_hand(self):
        rows = {
            1: (1, 0, 1), -1: (1, 0, -1), 2: (1, 1, 1), -2: (1, 1, -1), 3: (3, 0, 1), -3: (3, 0, -1),
            12: (3, 2, 1), -12: (3, 2, -1), 96: (3, 5, 1), -1000: (125, 3, -1),
        }
        for number, told in rows.items():
            self.assertEqual(core(number), told)

    def test_small_numbers(self):
        for number in range(-3000, 3001):
            if number != 0:
                self.hold(number)

    def test_powers_of_two_and_their_neighbours(self):
        for power in list(range(200)) + [4000, 13000]:
            self.assertEqual(core(2 ** power), (1, power, 1))
            self.assertEqual(core(-2 ** power), (1, power, -1))
            self.hold(2 ** power + 1)
            self.hold(-2 ** power - 1)

    def test_long_numbers(self):
        for number in of_either_sign(SIXTY + FOUR_THOUSAND):
            self.hold(number)
            self.hold(number + 1)
            self.hold(number * 2 ** 40)

    def test_by_name(self):
        self.assertEqual(core(number=-12), (3, 2, -1))


class Shifted(unittest.TestCase):
    def hold(self, number, shift, told):
        answer = shifted(number, shift)
        self.assertEqual(answer, told)
        self.assertIs(type(answer), int)

    def test_nought_stays(self):
        for shift in (0, 1, -1, 7, -7, 4000, -4000):
            self.hold(0, shift, 0)

    def test_by_nought(self):
        for number in of_either_sign((1, 2, 3, 12) + SIXTY + FOUR_THOUSAND):
            self.hold(number, 0, number)

    def test_told_by_hand(self):
        for number, shift, told in ((7, 3, 56), (-7, 3, -56), (12, -2, 3), (-12, -2, -3), (12, -1, 6), (-12, -1, -6)):
            self.hold(number, shift, told)
        for number, shift in ((12, -3), (-12, -3), (1, -1), (-1, -1), (3, -1), (-3, -1), (-1, -4000), (1, -4000)):
            self.assertIsNone(shifted(number, shift))

    def test_up_and_down_as_far_as_the_number_lets(self):
        for number in of_either_sign((1, 3, 5, 2 ** 61 - 1, 10 ** 60 - 1)):
            for shift in (0, 1, 2, 29, 30, 31, 63, 64, 65, 3999, 4000):
                up = number * 2 ** shift
                self.hold(number, shift, up)
                self.hold(up, -shift, number)
                if shift < 4000:
                    self.assertIsNone(shifted(up, -shift - 1))

    def test_the_furthest_shifts(self):
        for number in of_either_sign((1, 6, 10 ** 60 - 1)):
            self.hold(number, 4000, number * 2 ** 4000)
            self.hold(number * 2 ** 4000, -4000, number)
        self.assertIsNone(shifted(2 ** 3999, -4000))
        self.assertIsNone(shifted(-(2 ** 3999), -4000))
        self.assertIsNone(shifted(3 * 2 ** 4000 + 2 ** 3999, -4000))
        self.assertIsNone(shifted(2 ** 4000 + 1, -4000))

    def test_small_numbers_against_division(self):
        for number in range(-70, 71):
            for shift in range(1, 9):
                if number % 2 ** shift == 0:
                    self.hold(number, -shift, number // 2 ** shift)
                else:
                    self.assertIsNone(shifted(number, -shift))

    def test_by_name(self):
        self.assertEqual(shifted(number=3, shift=2), 12)
        self.assertEqual(shifted(shift=-2, number=12), 3)


if __name__ == "__main__":
    unittest.main()
