"""The least writings of numbers: promises 2 and 7."""

import itertools
import unittest

from samples import BOTH_SIGNS, SIXTY
from shiftsums.errors import TooMany
from shiftsums.signs import least, signs, value_of
from shiftsums.writings import how_many, writings


def value(digits):
    return sum(digit * 2 ** place for place, digit in enumerate(digits))


def weight(digits):
    return sum(1 for digit in digits if digit != 0)


def gone_through(places):
    """For each number its least writings in so many places, of all lists of so many digits."""
    lightest = {}
    for digits in itertools.product((-1, 0, 1), repeat=places):
        number = value(digits)
        if weight(digits) == least(number):
            lightest.setdefault(number, []).append(list(digits))
    return lightest


def parted(blocks):
    """The number 3 again and again, five places apart: each may be written 11 or -101, by itself."""
    return sum(3 * 2 ** (5 * block) for block in range(blocks))


def chain(steps):
    """Signs -1, every second place, so many, and then 1: this and what is ahead of it may be 1 1, 1 0 1 1, and so on."""
    return 4 ** steps - (4 ** steps - 1) // 3


class HowMany(unittest.TestCase):
    def test_told_by_hand(self):
        rows = (
            (0, 0, 1), (1, 0, 0), (-1, 0, 0), (1, 1, 1), (2, 1, 0), (3, 2, 1), (3, 3, 2), (-3, 3, 2), (3, 9, 2), (7, 3, 0),
            (7, 4, 1), (11, 4, 2), (11, 5, 3), (5, 3, 1), (5, 2, 0), (4, 3, 1), (4, 2, 0),
        )
        for number, places, told in rows:
            self.assertEqual(how_many(number, places), told, (number, places))
            self.assertIs(type(how_many(number, places)), int)

    def test_against_all_lists_of_digits(self):
        for places in range(9):
            lightest = gone_through(places)
            for number in range(-2 ** places - 3, 2 ** places + 4):
                self.assertEqual(how_many(number, places), len(lightest.get(number, [])), (number, places))

    def test_nought_in_any_places(self):
        for places in range(301):
            self.assertEqual(how_many(0, places), 1)

    def test_no_places(self):
        for number in (1, -1, 2, -3, *BOTH_SIGNS):
            self.assertEqual(how_many(number, 0), 0)

    def test_the_signs_and_fewer_places(self):
        for number in (1, 6, 11, -11, 85, 683, *BOTH_SIGNS):
            length = len(signs(number))
            self.assertGreaterEqual(how_many(number, length), 1)
            self.assertEqual(how_many(number, abs(number).bit_length() - 1), 0)
            self.assertLessEqual(how_many(number, length - 1), how_many(number, length))
            self.assertEqual(how_many(number, length), how_many(number, 300))
        self.assertEqual(how_many(7, 3), 0)
        self.assertEqual(how_many(3, 2), 1)

    def test_three_hundred_places(self):
        self.assertEqual(how_many(2 ** 299, 300), 1)
        self.assertEqual(how_many(-(2 ** 299), 300), 1)
        self.assertEqual(how_many(2 ** 300, 300), 0)
        self.assertEqual(how_many(2 ** 300 - 1, 300), 0)
        self.assertEqual(how_many(3 * 2 ** 298, 300), 1)
        self.assertEqual(how_many(3 * 2 ** 297, 300), 2)
        self.assertEqual(how_many(parted(59), 300), 2 ** 59)
        self.assertEqual(how_many(-parted(59), 300), 2 ** 59)

    def test_chains(self):
        for steps in (*range(1, 30), 99, 100, 149):
            self.assertEqual(how_many(chain(steps), 300), steps + 1)
            self.assertEqual(how_many(-chain(steps), 2 * steps + 1), steps + 1)
            self.assertEqual(how_many(chain(steps), 2 * steps), steps)

    def test_long_numbers_of_either_sign(self):
        for number in SIXTY:
            for places in (198, 199, 200, 201, 202, 300):
                told = how_many(number, places)
                self.assertEqual(how_many(-number, places), told)
                self.assertEqual(how_many(2 * number, places + 1), told)
            self.assertGreaterEqual(how_many(number, 300), 2)

    def test_turned_and_twice(self):
        for number in range(600):
            for places in (0, 3, 8, 9, 10, 11, 12):
                told = how_many(number, places)
                self.assertEqual(how_many(-number, places), told)
                self.assertEqual(how_many(2 * number, places + 1), told)

    def test_numbers_told_here(self):
        self.assertEqual(how_many(value_of([1] * 300), 300), 0)
        self.assertEqual(how_many(value_of([1] * 300), 301), 1)
        self.assertEqual(how_many(10 ** 3999, 300), 0)

    def test_by_name(self):
        self.assertEqual(how_many(number=3, places=3), 2)


class Writings(unittest.TestCase):
    def hold(self, number, places):
        told = writings(number, places)
        self.assertIs(type(told), list)
        self.assertEqual(told, sorted(told))
        self.assertEqual(len({tuple(digits) for digits in told}), len(told))
        self.assertEqual(len(told), how_many(number, places))
        for digits in told:
            self.assertIs(type(digits), list)
            self.assertEqual(len(digits), places)
            self.assertTrue(all(type(digit) is int and digit in (-1, 0, 1) for digit in digits))
            self.assertEqual(value(digits), number)
            self.assertEqual(weight(digits), least(number))
        return told

    def test_told_by_hand(self):
        self.assertEqual(writings(0, 0), [[]])
        self.assertEqual(writings(0, 3), [[0, 0, 0]])
        self.assertEqual(writings(3, 3), [[-1, 0, 1], [1, 1, 0]])
        self.assertEqual(writings(-3, 3), [[-1, -1, 0], [1, 0, -1]])
        self.assertEqual(writings(11, 5), [[-1, 0, -1, 0, 1], [-1, 0, 1, 1, 0], [1, 1, 0, 1, 0]])

    def test_none_of_them(self):
        for number, places in ((1, 0), (-1, 0), (7, 3), (2, 1), (4, 2), (-(2 ** 200), 200), (10 ** 60, 190), (10 ** 3999, 200)):
            self.assertEqual(writings(number, places), [])

    def test_against_all_lists_of_digits(self):
        for places in range(8):
            lightest = gone_through(places)
            for number in range(-2 ** places - 3, 2 ** places + 4):
                self.assertEqual(self.hold(number, places), sorted(lightest.get(number, [])))

    def test_two_hundred_places(self):
        self.hold(0, 200)
        self.assertEqual(len(self.hold(parted(8), 200)), 256)
        self.assertEqual(len(self.hold(-parted(8) * 2 ** 150, 200)), 256)
        self.assertEqual(len(self.hold(2 ** 199, 200)), 1)
        self.assertEqual(len(self.hold(2 ** 199 - 2 ** 190, 200)), 1)
        self.assertEqual(len(self.hold(chain(99), 200)), 100)
        self.assertEqual(len(self.hold(-chain(99), 199)), 100)
        self.assertEqual(len(self.hold(chain(99), 198)), 99)

    def test_sixty_figures(self):
        for sign in (1, -1):
            number = sign * (10 ** 60 - 10 ** 60 % 2 ** 190 + 3)
            self.assertTrue(self.hold(number, 200))

    def test_just_three_hundred(self):
        # Two chains far from one another are written each by itself, so that their counts are multiplied.
        number = chain(11) + chain(24) * 2 ** 40
        self.assertEqual(how_many(number, 200), 300)
        self.assertEqual(len(self.hold(number, 200)), 300)
        self.assertEqual(len(self.hold(-number * 2 ** 100, 200)), 300)
        number = chain(6) + chain(42) * 2 ** 40
        self.assertEqual(how_many(number, 200), 301)
        for one_more in (number, -number, number * 2 ** 60):
            with self.assertRaises(TooMany):
                writings(one_more, 200)

    def test_too_many(self):
        for number in (parted(9), parted(39), -parted(39)):
            with self.assertRaises(TooMany):
                writings(number, 200)
        self.assertGreater(how_many(parted(39), 200), 10 ** 11)
        with self.assertRaises(TooMany):
            writings(value([-1, 0, -1, 0, 1, 0] * 33), 200)

    def test_many_that_lead_nowhere(self):
        # Beyond the places that there are, the highest part can take nothing over: what would is left out.
        for low in (parted(6), chain(20), -chain(20), 3 * 2 ** 38):
            for top in (3, 6, 7, 11, 13, -3, -6):
                number = low + top * 2 ** 40
                for places in range(40, 47):
                    self.assertEqual(len(self.hold(number, places)), how_many(number, places))

    def test_a_told_list_is_the_askers_own(self):
        kept = [[-1, 0, 1], [1, 1, 0]]
        told = writings(3, 3)
        told[0][0] = 7
        told[1].append(5)
        told.append([])
        self.assertEqual(writings(3, 3), kept)
        self.assertEqual(how_many(3, 3), 2)
        first = writings(3, 3)
        writings(3, 3)[0].clear()
        self.assertEqual(first, kept)
        self.assertEqual(len({id(digits) for digits in writings(parted(8), 60)}), 256)

    def test_by_name(self):
        self.assertEqual(writings(number=1, places=2), [[1, 0]])


if __name__ == "__main__":
    unittest.main()
