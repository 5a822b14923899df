"""Webs in a width: promises 2, 3 (each thing is right in its sure bits, and within the told range), 29, 30, 31 and 32."""

import copy
import itertools
import math
import unittest
from fractions import Fraction

from samples import BOTH_SIGNS, SIXTY, chance, doublings, plain_out_rows, plain_rows, plain_value, some_web, some_webs, without_downs
from shiftsums.errors import NoJoin
from shiftsums.rows import by_signs, deep
from shiftsums.runs import run, run_outs
from shiftsums.webs import is_web
from shiftsums.widths import fits, outs_in, range_in, run_in, sure, width_for, wrapped

WIDTHS = (1, 2, 3, 4, 8, 17, 64, 3000)
ADDED = ("sum", 0, 1, 0, 0)
THREE = (1, [ADDED], [(1, 0, 1)])


def ends(width):
    return -(2 ** (width - 1)), 2 ** (width - 1) - 1


def lies_in(number, width):
    low, high = ends(width)
    return low <= number <= high


def plain_wrapped(number, width):
    low, high = ends(width)
    rest = (number - low) % (high - low + 1)
    return low + rest


def plain_shifted(value, shift, width):
    if shift >= 0:
        return plain_wrapped(value * 2 ** shift, width)
    return math.floor(Fraction(value, 2 ** -shift))


def plain_run_in(web, width, values):
    told = [plain_wrapped(value, width) for value in values]
    for word, a, s, b, t in web[1]:
        left, right = plain_shifted(told[a], s, width), plain_shifted(told[b], t, width)
        told.append(plain_wrapped(left + right if word == "sum" else left - right, width))
    return told


def plain_outs_in(web, width, values):
    told = plain_run_in(web, width, values)
    return [plain_wrapped(plain_shifted(told[thing], shift, width) * sign, width) if sign else 0 for thing, shift, sign in web[2]]


def plain_sure(web, width):
    told = [width] * web[0]
    for word, a, s, b, t in web[1]:
        told.append(min(0 if part < 0 else width if part > width else part for part in (told[a] + s, told[b] + t)))
    return told


def all_plain_values(web, values):
    return [plain_value(row, values) for row in plain_rows(web) + plain_out_rows(web)]


def some_values(dice, count, width):
    low, high = ends(width)
    return [dice.choice((0, 1, -1, low, high, low - 1, high + 1, dice.randint(2 * low, 2 * high), SIXTY[1], -SIXTY[2])) for _ in range(count)]


class Wrapped(unittest.TestCase):
    def test_told_by_hand(self):
        for number, width, told in (
            (0, 1, 0), (1, 1, -1), (-1, 1, -1), (2, 1, 0), (-2, 1, 0), (1, 2, 1), (2, 2, -2), (-2, 2, -2), (-3, 2, 1), (3, 2, -1), (4, 2, 0),
            (127, 8, 127), (128, 8, -128), (-128, 8, -128), (-129, 8, 127), (255, 8, -1), (256, 8, 0), (384, 8, -128), (-384, 8, -128),
        ):
            self.assertEqual(wrapped(number, width), told, (number, width))

    def test_the_ends_and_beyond(self):
        for width in WIDTHS:
            low, high = ends(width)
            self.assertEqual(wrapped(low, width), low)
            self.assertEqual(wrapped(high, width), high)
            self.assertEqual(wrapped(high + 1, width), low)
            self.assertEqual(wrapped(low - 1, width), high)
            for far in (1, -1, 7, -7, 10 ** 60 - 1):
                self.assertEqual(wrapped(low + far * 2 ** width, width), low)
                self.assertEqual(wrapped(high + far * 2 ** width, width), high)
                self.assertEqual(wrapped(far * 2 ** width, width), 0)

    def test_small_numbers_in_small_widths(self):
        for width in range(1, 7):
            for number in range(-140, 141):
                told = wrapped(number, width)
                self.assertTrue(lies_in(told, width))
                self.assertEqual((number - told) % 2 ** width, 0)

    def test_numbers_of_sixty_figures(self):
        for width in WIDTHS + (198, 199, 200, 201):
            for number in BOTH_SIGNS:
                self.assertEqual(wrapped(number, width), plain_wrapped(number, width))
        self.assertEqual(wrapped(SIXTY[1], 3000), SIXTY[1])

    def test_by_name(self):
        self.assertEqual(wrapped(number=5, width=2), 1)


class RunIn(unittest.TestCase):
    def hold(self, web, width, values):
        kept = copy.deepcopy((web, values))
        things, outs = run_in(web, width, values), outs_in(web, width, values)
        self.assertEqual((web, values), kept)
        self.assertEqual(things, plain_run_in(web, width, values), (web, width, values))
        self.assertEqual(outs, plain_outs_in(web, width, values), (web, width, values))
        self.assertTrue(all(lies_in(value, width) for value in things + outs))
        return things, outs

    def test_told_by_hand(self):
        self.assertEqual(self.hold(THREE, 8, [42]), ([42, 126], [126]))
        self.assertEqual(self.hold(THREE, 8, [43]), ([43, -127], [-127]))
        self.assertEqual(self.hold(THREE, 8, [299]), ([43, -127], [-127]))
        self.assertEqual(self.hold((1, [("less", 0, 0, 0, 3)], [(1, 1, -1)]), 4, [3]), ([3, -5], [-6]))

    def test_shifts_up_fall_off(self):
        # 5 << 6 is 320, in eight bits 64; twice that is -128 there, half of it again -64: what fell off stays off.
        web = (1, [("sum", 0, 6, 0, 6), ("sum", 1, -1, 0, 0)], [(1, -7, 1), (0, 40, 1)])
        self.assertEqual(self.hold(web, 8, [5]), ([5, -128, -59], [-1, 0]))
        self.hold((1, [("sum", 0, 4000, 0, 0)], [(1, 0, 1)]), 8, [77])
        self.hold((1, [("sum", 0, 4000, 0, 0)], [(0, 4000, -1)]), 3000, [77])

    def test_shifts_down_round_down(self):
        web = (1, [("sum", 0, 0, 0, 0), ("less", 1, -1, 0, 0)], [(1, -1, 1), (1, -1, -1)])
        # In four bits 2 * 5 is -6, half of it -3; 2 * -7 is 2.
        self.assertEqual(self.hold(web, 4, [5]), ([5, -6, 8 - 16], [-3, 3]))
        self.assertEqual(self.hold(web, 4, [-7]), ([-7, 2, -8], [1, -1]))
        # The numbers 4 and 12 may go down, but in three bits the values there need not.
        web = (1, [("sum", 0, 1, 0, 1), ("sum", 1, 1, 1, 0), ("sum", 2, -2, 1, -2), ("less", 2, -1, 1, -1)], [(3, 0, 1), (2, -2, -1)])
        for width in range(1, 7):
            for value in range(-40, 41):
                self.hold(web, width, [value])

    def test_values_below_nought_go_down(self):
        # Of what was shifted up by 40 narrow widths keep nothing, wider ones a few bits, of either sign.
        web = (2, [("sum", 0, 40, 1, 40), ("sum", 2, -3, 2, -40)], [(2, -39, -1), (2, -1, 1)])
        for width in (1, 2, 3, 41, 42, 43, 64):
            for values in itertools.product((-3, -1, 0, 1, 5), repeat=2):
                self.hold(web, width, list(values))

    def test_the_least_number_with_the_sign_turned(self):
        for width in WIDTHS:
            low, high = ends(width)
            web = (1, [("less", 0, 0, 0, 1)], [(0, 0, -1), (0, 0, 1), (0, 0, 0), (1, 0, -1)])
            self.assertEqual(self.hold(web, width, [low])[1], [low, low, 0, low])
            self.hold(web, width, [high])

    def test_webs_of_all_sizes(self):
        dice = chance(60)
        for furthest in (1, 3, 40):
            for web in some_webs(61 + furthest, 80, furthest):
                for width in WIDTHS:
                    self.hold(web, width, some_values(dice, web[0], width))

    def test_told_rows(self):
        for web in (by_signs([SIXTY[1], -7]), deep([SIXTY[2], 0])):
            for width in WIDTHS:
                things, outs = self.hold(web, width, [SIXTY[0] + 1])
                self.assertEqual(outs, [plain_wrapped(value, width) for value in run_outs(web, [SIXTY[0] + 1])])

    def test_another_number_of_values(self):
        dice = chance(62)
        for ins in (1, 2, 12):
            web = some_web(dice, ins, 3, 2)
            for count in (0, 1, 2, 3, 11, 12, 13):
                if count != ins:
                    for asked in (run_in, outs_in):
                        with self.assertRaises(NoJoin):
                            asked(web, 8, [1] * count)

    def test_told_lists_are_the_askers_own(self):
        for asked in (run_in, outs_in):
            values = [5]
            first = asked(THREE, 8, values)
            kept = list(first)
            asked(THREE, 8, values).clear()
            values[0] = 6
            self.assertEqual(first, kept)
            first.clear()
            self.assertEqual(asked(THREE, 8, [5]), kept)

    def test_by_name(self):
        self.assertEqual(run_in(web=THREE, width=3, values=[2]), [2, -2])
        self.assertEqual(outs_in(web=THREE, width=3, values=[2]), [-2])


class Sure(unittest.TestCase):
    def test_told_by_hand(self):
        web = (2, [("sum", 0, 3, 1, 0), ("sum", 2, 4, 0, 4), ("sum", 3, -3, 0, 0), ("less", 4, 2, 3, -4)], [(5, 0, 1)])
        self.assertIs(is_web(web), True)
        self.assertEqual(sure(web, 8), [8, 8, 8, 8, 5, 4])
        self.assertEqual(sure(web, 2), [2, 2, 2, 2, 0, 0])
        self.assertEqual(sure((1, [], []), 7), [7])

    def test_more_than_the_width_and_less_than_nought(self):
        web = (1, [("sum", 0, 40, 0, 40), ("sum", 1, -40, 0, 0), ("sum", 2, 40, 2, 39), ("sum", 2, 3, 2, 2)], [])
        self.assertEqual(sure(web, 10), [10, 10, 0, 10, 2])
        self.assertEqual(sure(web, 100), [100, 100, 60, 99, 62])

    def test_webs_of_all_sizes(self):
        dice = chance(63)
        for furthest in (1, 3, 40):
            for web in some_webs(64 + furthest, 60, furthest):
                for width in WIDTHS:
                    kept = copy.deepcopy(web)
                    told = sure(web, width)
                    self.assertIs(type(told), list)
                    self.assertEqual(told, plain_sure(web, width))
                    self.assertEqual(web, kept)
                    values = some_values(dice, web[0], width)
                    for there, plain, bits in zip(run_in(web, width, values), run(web, values), told, strict=True):
                        self.assertEqual((there - plain) % 2 ** bits, 0)

    def test_without_shifts_below_nought_all_is_sure(self):
        dice = chance(65)
        for web in some_webs(66, 60):
            web = without_downs(web)
            for width in WIDTHS:
                self.assertEqual(sure(web, width), [width] * (web[0] + len(web[1])))
                values = some_values(dice, web[0], width)
                self.assertEqual(run_in(web, width, values), [plain_wrapped(value, width) for value in run(web, values)])
                self.assertEqual(outs_in(web, width, values), [plain_wrapped(value, width) for value in run_outs(web, values)])

    def test_told_lists_are_the_askers_own(self):
        first = sure(THREE, 8)
        sure(THREE, 8).clear()
        self.assertEqual(first, [8, 8])
        first.clear()
        self.assertEqual(sure(THREE, 8), [8, 8])

    def test_by_name(self):
        self.assertEqual(sure(web=THREE, width=3), [3, 3])


class Fits(unittest.TestCase):
    def hold(self, web, ranges):
        """Held against all values within the ranges."""
        kept = copy.deepcopy((web, ranges))
        told = width_for(web, ranges)
        plain = [value for values in itertools.product(*[range(low, high + 1) for low, high in ranges]) for value in all_plain_values(web, values)]
        width = 1
        while not all(lies_in(value, width) for value in plain):
            width += 1
        self.assertEqual(told, width, (web, ranges))
        for asked in {1, 2, width - 1, width, width + 1, 3000} - {0}:
            self.assertIs(fits(web, asked, ranges), asked >= width)
        self.assertEqual((web, ranges), kept)
        return told

    def test_told_by_hand(self):
        for ranges, told in (
            ([(0, 0)], 1), ([(-1, 0)], 3), ([(0, 1)], 3), ([(-1, -1)], 3), ([(1, 1)], 3), ([(0, 42)], 8), ([(0, 43)], 9), ([(-42, 0)], 8),
            ([(-43, 42)], 9), ([(5, 5)], 5), ([(-5, -5)], 5), ([(40, 42)], 8), ([(-42, -40)], 8),
        ):
            self.assertEqual(self.hold(THREE, ranges), told, ranges)
        self.assertEqual(self.hold((1, [], []), [(-1, 0)]), 1)
        self.assertEqual(self.hold((1, [], []), [(-128, 127)]), 8)
        self.assertEqual(self.hold((1, [], []), [(-129, 127)]), 9)
        self.assertEqual(self.hold((1, [], []), [(-128, 128)]), 9)

    def test_one_input_counts_against_another(self):
        web = (2, [("less", 0, 0, 1, 0)], [(2, 0, 1)])
        for low in range(-5, 5):
            for high in range(low, 6):
                self.hold(web, [(low, high), (-3, 2)])
                self.hold(web, [(low, high), (low, high)])
        self.hold((2, [("less", 0, 1, 1, 0), ("less", 2, 0, 0, 0), ("less", 0, 0, 2, 2)], [(4, 1, -1)]), [(-3, 4), (2, 5)])

    def test_things_that_are_not_used_count(self):
        self.assertEqual(self.hold((1, [("sum", 0, 5, 0, 0)], []), [(0, 1)]), 7)
        self.assertEqual(self.hold((1, [("sum", 0, 5, 0, 0)], [(0, 0, 1)]), [(0, 1)]), 7)

    def test_a_shifted_part_need_not_lie_in_it(self):
        # 8 x - 7 x: the part 8 x is beyond four bits where x is 1, but the sum is x.
        web = (1, [("less", 0, 3, 0, 0), ("less", 0, 3, 1, 0)], [(2, 0, 1)])
        self.assertEqual(self.hold(web, [(0, 1)]), 4)
        self.assertEqual(run_in(web, 4, [1]), [1, 7, 1])

    def test_outs_with_the_sign_turned_at_the_end(self):
        self.assertEqual(self.hold((1, [], [(0, 0, -1)]), [(-8, 0)]), 5)
        self.assertEqual(self.hold((1, [], [(0, 0, 1)]), [(-8, 0)]), 4)
        self.assertEqual(self.hold((1, [], [(0, 0, -1)]), [(-7, 7)]), 4)
        self.assertEqual(self.hold((1, [], [(0, 0, -1)]), [(0, 8)]), 5)
        self.assertEqual(self.hold((1, [], [(0, 2, 1), (0, 0, 0)]), [(-2, 1)]), 4)

    def test_many_webs_and_small_ranges(self):
        dice = chance(67)
        for _ in range(250):
            web = some_web(dice, dice.choice((1, 2, 3)), dice.randrange(6), dice.randrange(4), dice.choice((0, 1, 3, 40)))
            ranges = []
            for _ in range(web[0]):
                low = dice.randrange(-6, 7)
                ranges.append((low, low + dice.randrange(4)))
            self.hold(web, ranges)

    def test_where_it_fits_the_values_there_are_the_plain_ones(self):
        dice = chance(68)
        for web in some_webs(69, 60, 3):
            ranges = [tuple(sorted((dice.randrange(-99, 99), dice.randrange(-99, 99)))) for _ in range(web[0])]
            width = width_for(web, ranges)
            for _ in range(5):
                values = [dice.randint(low, high) for low, high in ranges]
                for asked in (width, width + 1, 3000):
                    self.assertEqual(run_in(web, asked, values), run(web, values))
                    self.assertEqual(outs_in(web, asked, values), run_outs(web, values))

    def test_ranges_of_sixty_figures(self):
        for number in SIXTY:
            self.assertEqual(width_for((1, [], []), [(-number, number)]), number.bit_length() + 1)
            self.assertEqual(width_for((1, [], []), [(number, number)]), number.bit_length() + 1)
            self.assertEqual(width_for((1, [], []), [(-number, -number)]), (number - 1).bit_length() + 1)
            self.assertEqual(width_for(THREE, [(-number, number)]), (3 * number).bit_length() + 1)
            self.assertIs(fits(THREE, (3 * number).bit_length() + 1, [(0, number)]), True)
            self.assertIs(fits(THREE, (3 * number).bit_length(), [(0, number)]), False)
            self.assertEqual(width_for((2, [("less", 0, 0, 1, 0)], []), [(number, number), (number, number)]), number.bit_length() + 1)

    def test_a_width_above_three_thousand(self):
        ins, deeds, outs = (1, [("sum", k, 40, k, 40) for k in range(60)], [(60, 40, -1)])
        ranges = [(-(2 ** 199), 10 ** 59)]
        # Each deed makes its thing 41 bits longer.
        self.assertEqual(width_for((ins, deeds, outs), [(0, 1)]), 60 * 41 + 40 + 1)
        deeds = deeds + [("sum", 60, 400, 60, 400)]
        told = width_for((ins, deeds, [(61, 40, -1)]), ranges)
        self.assertEqual(told, 60 * 41 + 401 + 40 + 199 + 2)
        self.assertGreater(told, 3000)
        self.assertIs(fits((ins, deeds, [(61, 40, -1)]), 3000, ranges), False)
        self.assertIs(fits((ins, deeds, [(61, 40, -1)]), told, ranges), True)
        self.assertIs(fits((ins, deeds, [(61, 40, -1)]), told - 1, ranges), False)

    def test_another_number_of_ranges(self):
        dice = chance(70)
        for ins in (1, 2, 12):
            web = some_web(dice, ins, 3, 2)
            for count in (0, 1, 2, 3, 11, 12, 13):
                if count != ins:
                    with self.assertRaises(NoJoin):
                        fits(web, 8, [(0, 1)] * count)
                    with self.assertRaises(NoJoin):
                        width_for(web, [(0, 1)] * count)

    def test_by_name(self):
        self.assertIs(fits(web=THREE, width=3, ranges=[(0, 1)]), True)
        self.assertEqual(width_for(web=THREE, ranges=[(0, 1)]), 3)


class RangeIn(unittest.TestCase):
    def hold(self, web, width):
        kept = copy.deepcopy(web)
        told = range_in(web, width)
        self.assertEqual(web, kept)
        self.assertIs(type(told), tuple)
        low, high = told
        for x in range(low - 3, low + 4):
            self.assertEqual(all(lies_in(value, width) for value in all_plain_values(web, [x])), low <= x <= high, (web, width, x))
        for x in range(high - 3, high + 4):
            self.assertEqual(all(lies_in(value, width) for value in all_plain_values(web, [x])), low <= x <= high, (web, width, x))
        self.assertIs(fits(web, width, [told]), True)
        self.assertIs(fits(web, width, [(low - 1, low - 1)]), False)
        self.assertIs(fits(web, width, [(high + 1, high + 1)]), False)
        for x in (low, high):
            self.assertEqual(run_in(web, width, [x]), run(web, [x]))
            self.assertEqual(outs_in(web, width, [x]), run_outs(web, [x]))
        return told

    def test_told_by_hand(self):
        self.assertEqual(self.hold(THREE, 8), (-42, 42))
        self.assertEqual(self.hold((1, [], []), 8), (-128, 127))
        self.assertEqual(self.hold((1, [], [(0, 0, -1)]), 8), (-127, 127))
        self.assertEqual(self.hold((1, [], [(0, 1, 1)]), 8), (-64, 63))
        self.assertEqual(self.hold((1, [], [(0, 1, -1)]), 8), (-63, 64))
        self.assertEqual(self.hold((1, [], [(0, 1, -1), (0, 1, 1)]), 8), (-63, 63))
        self.assertEqual(self.hold((1, [], [(0, 40, 1), (0, 0, 0)]), 8), (0, 0))
        self.assertEqual(self.hold((1, [], [(0, 7, 1)]), 8), (-1, 0))
        self.assertEqual(self.hold((1, [], [(0, 7, -1)]), 8), (0, 1))

    def test_a_web_without_deeds(self):
        for width in WIDTHS:
            self.assertEqual(self.hold((1, [], []), width), ends(width))
            self.assertEqual(self.hold((1, [], [(0, 0, 0)]), width), ends(width))

    def test_noughts_alone(self):
        for width in WIDTHS:
            self.assertEqual(self.hold((1, [("less", 0, 0, 0, 0)], [(1, 3, -1)]), width), ends(width))

    def test_things_that_are_not_used_count(self):
        self.assertEqual(self.hold((1, [ADDED], []), 8), (-42, 42))
        self.assertEqual(self.hold((1, [("less", 0, 0, 0, 2)], [(0, 0, 0)]), 8), (-42, 42))

    def test_many_webs(self):
        dice = chance(71)
        for _ in range(200):
            web = some_web(dice, 1, dice.randrange(8), dice.randrange(5), dice.choice((0, 1, 3, 40)))
            for width in WIDTHS:
                self.hold(web, width)

    def test_told_rows(self):
        for web in (by_signs([SIXTY[1], -7]), deep([SIXTY[2], 0]), doublings(60)):
            for width in WIDTHS + (199, 200, 201, 3001):
                self.hold(web, width)

    def test_more_inputs_than_one(self):
        for ins in range(2, 13):
            with self.assertRaises(NoJoin):
                range_in((ins, [], [(0, 0, 1)]), 8)

    def test_by_name(self):
        self.assertEqual(range_in(web=THREE, width=3), (-1, 1))


if __name__ == "__main__":
    unittest.main()
