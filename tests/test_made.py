"""Cores made of others, wanted ones, webs within top, and costs: promises 2, 21, 22 and 23."""

import copy
import itertools
import unittest

from samples import BOTH_SIGNS, SIXTY, chance, doublings, plain_core, plain_made, plain_reach, plain_rows, some_web
from shiftsums.errors import ShiftError, TooMany
from shiftsums.made import costs, is_within, made, wanted
from shiftsums.rows import by_signs, deep
from shiftsums.shared import shared

ODDS = list(range(1, 100, 2))


def far_made(cores, top):
    """All cores of u * 2 ** k + v and u * 2 ** k - v but 0, k far beyond what can matter."""
    sums = [u * 2 ** k + sign * v for u in cores for v in cores for k in range(16) for sign in (1, -1)]
    return sorted({plain_core(number) for number in sums if number != 0 and plain_core(number) <= top})


class Made(unittest.TestCase):
    def hold(self, cores, top):
        kept = list(cores)
        told = made(cores, top)
        self.assertEqual(told, far_made(cores, top), (cores, top))
        self.assertEqual(told, plain_made(cores, top))
        self.assertIs(type(told), list)
        self.assertEqual(told, sorted(set(told)))
        self.assertLessEqual(set(cores), set(told))
        self.assertEqual(cores, kept)

    def test_told_by_hand(self):
        for cores, top, told in (
            ([1], 1, [1]), ([1], 2, [1]), ([1], 3, [1, 3]), ([1], 9, [1, 3, 5, 7, 9]), ([1], 99, [1, 3, 5, 7, 9, 15, 17, 31, 33, 63, 65]),
            ([3], 3, [3]), ([3], 99, [3, 9, 15, 21, 27, 45, 51, 93, 99]), ([], 1, []), ([], 99, []), ([1, 3], 5, [1, 3, 5]),
            # 9 + 5 = 14 and 13 + 9 = 22: sums of two odd ones, which come down to their cores.
            ([5, 9], 9, [1, 5, 7, 9]), ([9, 13], 13, [1, 5, 9, 11, 13]),
        ):
            self.assertEqual(made(cores, top), told)

    def test_the_sum_is_far_above_top_and_its_core_is_not(self):
        # 99 + 93 = 192 = 3 * 64; 2 * 99 - 99 = 99 and 2 * 97 - 99 = 95, of highs of nearly twice top.
        self.assertIn(3, made([93, 99], 99))
        self.assertEqual(made([99], 99), [99])
        self.assertIn(95, made([97, 99], 99))
        self.assertEqual(made([97, 99], 99), far_made([97, 99], 99))

    def test_one_core_and_two_with_every_top(self):
        for top in range(1, 100):
            odds = [odd for odd in ODDS if odd <= top]
            for odd in odds:
                self.hold([odd], top)
                self.hold([odd, odds[-1]], top)
                self.hold([1, odd], top)

    def test_all_pairs_with_the_greatest_top(self):
        for u, v in itertools.product(ODDS[::3], ODDS):
            self.hold([u, v], 99)

    def test_lists_of_many_lengths_in_any_order(self):
        dice = chance(30)
        for count in list(range(1, 51)) * 2:
            self.hold(dice.sample(ODDS, count), 99)
        for _ in range(150):
            top = dice.randrange(1, 100)
            odds = [odd for odd in ODDS if odd <= top]
            self.hold(dice.sample(odds, dice.randrange(1, min(len(odds), 8) + 1)), top)

    def test_alike_cores(self):
        self.hold([7, 7, 7], 99)
        self.hold([3] * 50, 99)

    def test_told_lists_are_the_askers_own(self):
        cores = [1, 3]
        first = made(cores, 9)
        kept = list(first)
        made(cores, 9).clear()
        cores.append(99)
        self.assertEqual(first, kept)
        first.append(None)
        self.assertEqual(made([1, 3], 9), kept)

    def test_by_name(self):
        self.assertEqual(made(cores=[1], top=3), [1, 3])


class Wanted(unittest.TestCase):
    def test_told_by_hand(self):
        for asked, told in (
            ([], []), ([0], []), ([1], []), ([-1], []), ([0, 0, 1, -1, 2, -8], []), ([2 ** 199, -(2 ** 60)], []), ([3], [3]), ([-3], [3]),
            ([12], [3]), ([7, 7], [7]), ([7, -14, 28, 56], [7]), ([9, 3, 5], [3, 5, 9]), ([40, 0, -3, 24, 1, 10], [3, 5]),
            ([99, -101 * 4, 6], [3, 99, 101]),
        ):
            kept = list(asked)
            self.assertEqual(wanted(asked), told)
            self.assertIs(type(wanted(asked)), list)
            self.assertEqual(asked, kept)

    def test_numbers_of_sixty_figures(self):
        for number in BOTH_SIGNS:
            self.assertEqual(wanted([number]), [plain_core(number)])
        self.assertEqual(wanted(BOTH_SIGNS), sorted({plain_core(number) for number in SIXTY}))
        self.assertEqual(wanted([SIXTY[0], 0, 3, SIXTY[0] // 2, 1]), [3, 5 ** 59])

    def test_many_lists(self):
        dice = chance(31)
        for _ in range(300):
            asked = [dice.randrange(-60, 61) for _ in range(dice.randrange(7))]
            self.assertEqual(wanted(asked), sorted({plain_core(number) for number in asked} - {0, 1}))

    def test_told_lists_are_the_askers_own(self):
        first = wanted([3, 5])
        wanted([3, 5]).clear()
        self.assertEqual(first, [3, 5])
        first.clear()
        self.assertEqual(wanted([3, 5]), [3, 5])

    def test_by_name(self):
        self.assertEqual(wanted(numbers=[6]), [3])


def greatest_core(web):
    return max(plain_core(int(row[0])) for row in plain_rows(web))


class IsWithin(unittest.TestCase):
    def test_the_greatest_core_is_just_top_and_one_above(self):
        for number in (3, 7, 45, 99, 101, 683, 12345, SIXTY[1], SIXTY[2] + 1):
            for web in (by_signs([number]), deep([number]), (1, [("sum", 0, 1, 0, 0)], [])):
                top = greatest_core(web)
                self.assertIs(is_within(web, top), True)
                self.assertIs(is_within(web, top - 1), False)
                self.assertIs(is_within(web, top + 1), True)

    def test_a_web_without_deeds(self):
        for top in (1, 2, 99, 10 ** 60):
            self.assertIs(is_within((1, [], []), top), True)
            self.assertIs(is_within((1, [], [(0, 40, -1), (0, 0, 0)]), top), True)

    def test_noughts_alone(self):
        self.assertIs(is_within((1, [("less", 0, 0, 0, 0)], [(1, 0, 1)]), 1), True)
        self.assertIs(is_within((1, [("less", 0, 0, 0, 0), ("sum", 1, 3, 0, 0)], [(2, 0, 1)]), 1), True)
        self.assertIs(is_within((1, [("less", 0, 0, 0, 0), ("sum", 0, 1, 0, 0)], []), 2), False)

    def test_things_that_are_not_used_count(self):
        web = (1, [("sum", 0, 3, 0, 0), ("sum", 0, 1, 0, 0)], [(2, 0, 1)])
        self.assertIs(is_within(web, 8), False)
        self.assertIs(is_within(web, 9), True)
        self.assertIs(is_within((1, web[1], []), 8), False)

    def test_the_cores_count_not_the_numbers(self):
        self.assertIs(is_within(doublings(60), 1), True)
        self.assertIs(is_within((1, [("less", 0, 0, 0, 2)], [(1, 0, 1)]), 3), True)
        self.assertIs(is_within((1, [("less", 0, 0, 0, 2)], [(1, 0, 1)]), 2), False)
        self.assertIs(is_within((1, [("sum", 0, 40, 0, 41), ("less", 1, -40, 0, 1)], []), 3), True)

    def test_many_webs(self):
        dice = chance(32)
        for _ in range(150):
            web = some_web(dice, 1, dice.randrange(8), dice.randrange(3), dice.choice((1, 2, 40)))
            kept = copy.deepcopy(web)
            top = greatest_core(web)
            for asked in {1, 2, 99, 100, top - 1, top, top + 1, 10 ** 59} - {0}:
                self.assertIs(is_within(web, asked), asked >= top)
            self.assertEqual(web, kept)

    def test_told_webs(self):
        for asked in ([99, 45], [0, 1, -8], [SIXTY[1], SIXTY[2]]):
            for web in (by_signs(asked), deep(asked)):
                self.assertIs(is_within(web, greatest_core(web)), True)
        self.assertIs(is_within(by_signs([SIXTY[1]]), SIXTY[1] - 1), False)
        self.assertIs(is_within(shared([45, 11]), 45), True)

    def test_by_name(self):
        self.assertIs(is_within(web=(1, [], []), top=1), True)


def plain_costs(top, most):
    counts = {}
    for deeds in range(most + 1):
        for cores in plain_reach(top, deeds):
            for odd in cores:
                counts.setdefault(odd, deeds)
    return sorted(counts.items())


def costs_of_webs(top):
    """The costs with at most two deeds, by making each thing of each web with near shifts."""
    counts = {1: 0}
    shifts = range(-4, 7)
    seconds = set()
    for word, s, t in itertools.product((1, -1), shifts, shifts):
        if s >= 0 and t >= 0:
            number = 2 ** s + word * 2 ** t
            if plain_core(number) <= top:
                counts.setdefault(plain_core(number), 1)
                seconds.add(number)
    counts.pop(0, None)
    for number in sorted(seconds):
        parts = [x << s for x in (1, number) for s in shifts if s >= 0]
        parts += [number >> -s for s in shifts if s < 0 and number % 2 ** -s == 0]
        for one, other, word in itertools.product(parts, parts, (1, -1)):
            odd = plain_core(one + word * other)
            if 0 < odd <= top:
                counts.setdefault(odd, 2)
    return sorted(counts.items())


class Costs(unittest.TestCase):
    def test_told_by_hand(self):
        self.assertEqual(costs(1, 0), [(1, 0)])
        self.assertEqual(costs(1, 4), [(1, 0)])
        self.assertEqual(costs(2, 4), [(1, 0)])
        self.assertEqual(costs(3, 0), [(1, 0)])
        self.assertEqual(costs(3, 1), [(1, 0), (3, 1)])
        self.assertEqual(costs(12, 1), [(1, 0), (3, 1), (5, 1), (7, 1), (9, 1)])
        self.assertEqual(costs(12, 2), [(1, 0), (3, 1), (5, 1), (7, 1), (9, 1), (11, 2)])

    def test_none_and_one_and_two_deeds_with_every_top(self):
        for top in range(1, 100):
            for most in range(3):
                self.assertEqual(costs(top, most), plain_costs(top, most))

    def test_two_deeds_by_the_webs_themselves(self):
        for top in (1, 2, 3, 5, 7, 10, 15, 21, 31, 33):
            self.assertEqual(costs(top, 2), costs_of_webs(top))

    def test_more_deeds(self):
        for top in (1, 2, 3, 7, 20, 31, 32, 43, 53, 76, 98, 99):
            self.assertEqual(costs(top, 3), plain_costs(top, 3))
        for top in range(1, 32):
            self.assertEqual(costs(top, 4), plain_costs(top, 4))

    def test_cores_that_take_three_deeds(self):
        told = dict(costs(99, 3))
        self.assertEqual(sorted(told), ODDS)
        self.assertEqual([odd for odd in ODDS if told[odd] == 3], [43, 53, 77, 83, 87, 89, 91])

    def test_the_form(self):
        for top, most in ((99, 3), (31, 4), (50, 2), (9, 0)):
            told = costs(top, most)
            self.assertIs(type(told), list)
            self.assertTrue(all(type(pair) is tuple and len(pair) == 2 for pair in told))
            self.assertEqual(told[0], (1, 0))
            cores = [odd for odd, count in told]
            self.assertEqual(cores, sorted(set(cores)))
            self.assertTrue(all(count <= most for odd, count in told))

    def test_a_greater_most_tells_no_lower_count(self):
        for top in (1, 9, 31):
            for most in range(4):
                less, more = dict(costs(top, most)), dict(costs(top, most + 1))
                self.assertEqual(less, {odd: more[odd] for odd in more if more[odd] <= most})

    def test_the_bounds(self):
        for top, most in ((99, 3), (31, 4), (99, 0), (1, 4), (32, 3)):
            self.assertEqual(costs(top, most)[0], (1, 0))
        for top, most in ((100, 0), (100, 3), (99, 4), (32, 4), (31, 5), (1, 5), (10 ** 60 - 1, 0), (1, 10 ** 60 - 1), (10 ** 59, 10 ** 59)):
            with self.assertRaises(TooMany) as caught:
                costs(top, most)
            self.assertIsInstance(caught.exception, ShiftError)

    def test_told_lists_are_the_askers_own(self):
        first = costs(9, 1)
        kept = list(first)
        costs(9, 1).clear()
        self.assertEqual(first, kept)
        first.clear()
        self.assertEqual(costs(9, 1), kept)

    def test_by_name(self):
        self.assertEqual(costs(top=3, most=1), [(1, 0), (3, 1)])


class NeverRefused(unittest.TestCase):
    def test_made_wanted_and_is_within_far_beyond_the_bounds(self):
        self.assertEqual(made([1], 130), [1, 3, 5, 7, 9, 15, 17, 31, 33, 63, 65, 127, 129])
        self.assertEqual(made([101, 1], 110), far_made([101, 1], 110))
        self.assertEqual(wanted([SIXTY[1]] * 6), [SIXTY[1]])
        self.assertIs(is_within((1, [], []), 10 ** 60 - 1), True)


if __name__ == "__main__":
    unittest.main()
