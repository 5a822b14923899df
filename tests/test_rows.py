"""Rows by signs, deep and shared ones: promises 2, 3 (as deep as told, never more deeds), 15, 16 and 17."""

import copy
import unittest

from samples import BOTH_SIGNS, SIXTY, chance, plain_out_rows
from shiftsums.numbers import core
from shiftsums.rows import by_signs, deep, least_depth
from shiftsums.runs import depth, depths, run_outs
from shiftsums.shared import shared
from shiftsums.signs import least, signs, value_of
from shiftsums.tidy import is_bare
from shiftsums.webs import is_web, numbers, out_numbers

TRILLION = 10 ** 12
LISTS = (
    [], [0], [1], [-1], [2], [-2], [3], [7], [-7], [45], [2 ** 199], [-(2 ** 198)], [0, 0], [1, 1], [1, -1], [0, 1, 0],
    [7, 7], [7, -7], [7, 14, -28], [7, 7, 7, 7, 7, 7], [3, 5, 7, 9, 11, 13], [0, 0, 0, 0, 0, 0], [683, -683, 0, 1, 1366, 2],
    [5, 0, -5, 10 ** 11, 171, -(2 ** 39)], [43, 45, 51, 53, 75, 77], [TRILLION - 1, 1 - TRILLION], [999999999989, 0, 1],
)
LONG_LISTS = [[number] for number in BOTH_SIGNS] + [
    BOTH_SIGNS, [SIXTY[1], 0, SIXTY[1], 1, -SIXTY[1], SIXTY[2]], [7, SIXTY[0], -3 * 2 ** 190, 0], [SIXTY[2] - k for k in range(6)],
]


def with_least(count):
    """Some numbers that have just so many signs that are not 0, of either sign: the closest ones, and ones far apart."""
    close = value_of([1, 0] * count)
    turns = value_of([(-1) ** (place // 2) if place % 2 == 0 else 0 for place in range(2 * count)])
    downs = 4 ** count - value_of([1, 0] * (count - 1)) * 4 if count > 1 else 64
    return [close, -close, turns, -turns, downs, -downs, 8 * close]


def some_lists(seed, count, top):
    dice = chance(seed)
    for _ in range(count):
        size = dice.randrange(1, 7)
        told = [dice.choice((1, -1)) * dice.randrange(top >> dice.randrange(top.bit_length())) for _ in range(size)]
        for _ in range(dice.randrange(3)):
            told[dice.randrange(size)] = dice.choice((0, 1, -2, told[0], -told[0]))
        yield told


def plain_bound(asked):
    return sum(least(number) - 1 for number in asked if number != 0)


def plain_depth(number):
    count, d = least(number), 0
    while 2 ** d < count:
        d += 1
    return d


class Rows(unittest.TestCase):
    def hold_row(self, maker, asked):
        kept = list(asked)
        web = maker(asked)
        self.assertEqual(asked, kept)
        self.assertIs(is_web(web), True)
        self.assertEqual(web[0], 1)
        self.assertEqual(plain_out_rows(web), [(number,) for number in asked])
        self.assertEqual(out_numbers(web), [(number,) for number in asked])
        for value in (0, 1, -1, 7, SIXTY[1]):
            self.assertEqual(run_outs(web, [value]), [number * value for number in asked])
        self.assertLessEqual(len(web[1]), plain_bound(asked))
        return web

    def hold_own(self, maker):
        asked = [7, 45, 0]
        first = maker(asked)
        kept = copy.deepcopy(first)
        other = maker(asked)
        other[1].clear()
        other[2].clear()
        asked[0] = 11
        self.assertEqual(first, kept)
        first[1].append(None)
        first[2].append(None)
        self.assertEqual(out_numbers(maker(asked)), [(11,), (45,), (0,)])
        self.assertEqual(maker([7, 45, 0]), kept)
        self.assertEqual(asked, [11, 45, 0])


class BySigns(Rows):
    def test_lists_of_none_to_six(self):
        for asked in LISTS + tuple(LONG_LISTS):
            self.hold_row(by_signs, asked)

    def test_small_numbers(self):
        for number in range(-1100, 1101):
            self.hold_row(by_signs, [number])

    def test_numbers_with_many_leasts(self):
        for count in range(1, 100):
            for number in with_least(count):
                self.assertEqual(least(number), count)
                self.hold_row(by_signs, [number])

    def test_many_lists(self):
        for asked in some_lists(70, 150, 10 ** 60 - 1):
            self.hold_row(by_signs, asked)

    def test_no_deeds_for_powers_of_two_and_nought(self):
        self.assertEqual(by_signs([]), (1, [], []))
        self.assertEqual(by_signs([0, 1, -1, 8, -(2 ** 190)]), (1, [], [(0, 0, 0), (0, 0, 1), (0, 0, -1), (0, 3, 1), (0, 190, -1)]))

    def test_told_lists_are_the_askers_own(self):
        self.hold_own(by_signs)

    def test_by_name(self):
        self.assertEqual(out_numbers(by_signs(numbers=[3])), [(3,)])


class LeastDepth(unittest.TestCase):
    def test_told_by_hand(self):
        for asked, told in (
            ([], 0), ([0], 0), ([0, 0], 0), ([1], 0), ([-1], 0), ([3], 1), ([7], 1), ([-7], 1), ([11], 2), ([43], 2), ([171], 3),
            ([3, 0, 11], 2), ([11, 3], 2), ([3, 11, 1, 171, 43, 0], 3), ([1, 0, -2], 0),
        ):
            kept = list(asked)
            self.assertEqual(least_depth(asked), told, asked)
            self.assertIs(type(least_depth(asked)), int)
            self.assertEqual(asked, kept)

    def test_powers_of_two(self):
        for place in range(199):
            self.assertEqual(least_depth([2 ** place]), 0)
            self.assertEqual(least_depth([-(2 ** place)]), 0)

    def test_about_each_power_of_two(self):
        for d in range(1, 7):
            for count, told in ((2 ** d - 1, d if d > 1 else 0), (2 ** d, d), (2 ** d + 1, d + 1)):
                for number in with_least(count):
                    self.assertEqual(least(number), count)
                    self.assertEqual(least_depth([number]), told, (count, number))

    def test_the_greatest_of_several(self):
        for asked in some_lists(71, 200, 10 ** 60 - 1):
            self.assertEqual(least_depth(asked), max(plain_depth(number) for number in asked))
        for number in range(-2000, 2001):
            self.assertEqual(least_depth([number]), plain_depth(number))

    def test_by_name(self):
        self.assertEqual(least_depth(numbers=[3]), 1)


class Deep(Rows):
    def hold(self, asked):
        web = self.hold_row(deep, asked)
        self.assertEqual(depth(web), least_depth(asked))
        self.assertEqual(depth(web), max([plain_depth(number) for number in asked], default=0))
        return web

    def test_lists_of_none_to_six(self):
        for asked in LISTS + tuple(LONG_LISTS):
            self.hold(asked)

    def test_small_numbers(self):
        for number in range(-1100, 1101):
            self.hold([number])

    def test_numbers_with_many_leasts(self):
        for count in range(1, 100):
            for number in with_least(count):
                self.hold([number])
        for counts in ((1, 2), (5, 4, 3), (8, 9), (17, 16, 1, 2), (33, 7, 64, 2, 1, 20), (99, 1, 98, 65, 64, 63)):
            self.hold([with_least(count)[count % 6] for count in counts])

    def test_many_lists(self):
        for asked in some_lists(72, 150, 10 ** 60 - 1):
            self.hold(asked)

    def test_no_thing_has_more_than_its_depth_lets(self):
        for asked in list(some_lists(73, 30, 10 ** 60 - 1)):
            for web in (by_signs(asked), deep(asked)):
                for row, its in zip(numbers(web), depths(web), strict=True):
                    self.assertLessEqual(least(row[0]), 2 ** its)

    def test_told_lists_are_the_askers_own(self):
        self.hold_own(deep)

    def test_by_name(self):
        self.assertEqual(out_numbers(deep(numbers=[3])), [(3,)])


class Shared(Rows):
    def hold(self, asked):
        web = self.hold_row(shared, asked)
        cores = {core(number)[0] for number in asked if number != 0}
        self.assertLessEqual(len(web[1]), plain_bound(cores))
        self.assertIs(is_bare(web), True)
        return web

    def test_lists_of_none_to_six(self):
        for asked in LISTS:
            if all(-TRILLION < number < TRILLION for number in asked):
                self.hold(asked)

    def test_small_numbers(self):
        for number in range(-1100, 1101):
            self.hold([number])

    def test_the_bounds(self):
        for number in (TRILLION - 1, TRILLION - 2, TRILLION // 2 + 1, 2 ** 39, 2 ** 39 - 1, 183251937963, 733007751851):
            self.assertLess(number, TRILLION)
            self.hold([number])
            self.hold([-number, number - 1, 1 - number])

    def test_alike_shifted_and_turned_ones_are_made_once(self):
        for number in (1, 3, 45, 683, 12345, 999999, 87654321):
            once = len(self.hold([number])[1])
            self.assertEqual(len(self.hold([number, number])[1]), once)
            self.assertEqual(len(self.hold([-number, 0, 4 * number, 1, -2 * number, number])[1]), once)
            self.assertLessEqual(once, len(signs(number)))

    def test_many_lists(self):
        for asked in some_lists(74, 300, TRILLION - 1):
            self.hold(asked)

    def test_told_lists_are_the_askers_own(self):
        self.hold_own(shared)

    def test_by_name(self):
        self.assertEqual(out_numbers(shared(numbers=[3])), [(3,)])


if __name__ == "__main__":
    unittest.main()
