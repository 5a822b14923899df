"""Rows of the fewest deeds: promises 2, 3 (right, within the bound, none has fewer), 21 and 25."""

import copy
import itertools
import time
import unittest

from samples import SIXTY, chance, plain_core, plain_fewest, plain_out_rows, plain_reach, plain_rows
from shiftsums.errors import TooMany
from shiftsums.fewest import fewest
from shiftsums.made import costs, is_within
from shiftsums.papers import shows
from shiftsums.rows import by_signs
from shiftsums.runs import run_outs
from shiftsums.tidy import bare, pruned
from shiftsums.webs import is_web, out_numbers


class Fewest(unittest.TestCase):
    def hold(self, asked, top, most):
        kept = list(asked)
        told = fewest(asked, top, most)
        self.assertEqual(asked, kept)
        self.assertIs(type(told), tuple)
        count = plain_fewest(asked, top, most)
        if count is None:
            self.assertEqual(told[0], "none", (asked, top, most))
            self.assertEqual(len(told), 2)
            self.hold_paper(told[1], asked, top, most)
        else:
            self.assertEqual(told[0], "web", (asked, top, most))
            self.assertEqual(len(told), 3)
            self.hold_web(told[1], asked, top)
            self.assertEqual(len(told[1][1]), count)
            if count == 0:
                self.assertIsNone(told[2])
            else:
                self.hold_paper(told[2], asked, top, count - 1)
        return told

    def hold_web(self, web, asked, top):
        self.assertIs(is_web(web), True)
        self.assertEqual(web[0], 1)
        self.assertEqual(plain_out_rows(web), [(number,) for number in asked])
        self.assertEqual(out_numbers(web), [(number,) for number in asked])
        self.assertTrue(all(plain_core(int(row[0])) <= top for row in plain_rows(web)))
        self.assertIs(is_within(web, top), True)

    def hold_paper(self, paper, asked, top, most):
        self.assertIs(type(paper), list)
        self.assertEqual(len(paper), most)
        self.assertLessEqual(sum(len(level) for level in paper), 2000)
        self.assertIs(shows(paper, asked, top, most), True)

    def test_nothing_is_wanted(self):
        for asked in ([], [0], [1], [-1], [0, 0], [8, -(2 ** 190), 0, 1, 2, 1]):
            for top, most in ((1, 0), (1, 4), (99, 0), (99, 3), (31, 4)):
                told = self.hold(asked, top, most)
                self.assertEqual(told, ("web", by_signs(asked), None))

    def test_told_by_hand(self):
        self.assertEqual(fewest([3], 99, 0), ("none", []))
        self.assertEqual(self.hold([3], 99, 1)[2], [])
        self.assertEqual(self.hold([11], 99, 1), ("none", [[(1,)]]))
        self.assertEqual(len(self.hold([45], 99, 3)[1][1]), 2)
        self.assertEqual(len(self.hold([43], 99, 3)[1][1]), 3)

    def test_each_core_by_its_cost(self):
        for top, most in ((99, 3), (99, 2), (31, 4), (50, 1), (12, 4)):
            counts = dict(costs(top, most))
            for odd in range(1, 130, 2):
                told = self.hold([odd], top, most)
                self.assertEqual(told[0], "web" if odd in counts else "none")
                if odd in counts:
                    self.assertEqual(len(told[1][1]), counts[odd])

    def test_all_small_lists(self):
        for top, most in ((1, 2), (3, 1), (7, 2), (13, 3), (11, 4)):
            for size in (1, 2, 3):
                for asked in itertools.combinations(range(3, 17, 2), size):
                    self.hold(list(asked), top, most)

    def test_all_small_numbers_of_either_sign(self):
        for pair in itertools.product(range(-9, 10), repeat=2):
            self.hold(list(pair), 9, 2)

    def test_wanted_cores_above_top(self):
        for asked in ([11], [3, 11], [101], [SIXTY[1]], [3, -SIXTY[2] - 1, 0], [202, 404]):
            for top, most in ((9, 0), (9, 2), (9, 4), (3, 3)):
                self.assertEqual(self.hold(asked, top, most)[0], "none")
        self.assertEqual(self.hold([SIXTY[1]], 99, 3)[0], "none")
        self.assertEqual(self.hold([11 * 2 ** 190], 11, 4)[0], "web")

    def test_one_is_needed_for_another(self):
        # 45 is made by way of 3, 5, 9 or 15: where one of these is wanted it comes for nothing.
        self.assertEqual(len(self.hold([5, 45], 99, 3)[1][1]), 2)
        self.assertEqual(len(self.hold([45, 5], 99, 3)[1][1]), 2)
        self.assertEqual(len(self.hold([11, 43, 3], 99, 3)[1][1]), 3)
        self.assertEqual(len(self.hold([5, 7, 9, 11], 31, 4)[1][1]), 4)
        self.assertEqual(len(self.hold([3, 5, 7, 9], 31, 4)[1][1]), 4)

    def test_a_core_between_that_is_not_wanted(self):
        for asked in ([11], [45], [43], [23, 29], [29, 43], [27, 29]):
            told = self.hold(asked, 99, 3)
            self.assertEqual(told[0], "web")
            self.assertGreater(len(told[1][1]), len(asked))

    def test_cores_beyond_top_may_not_be_used(self):
        # Each of these has a row with as few deeds that goes by way of a core above top; hold asks for one that does not.
        beyond = 0
        for asked in [[odd] for odd in range(3, 32, 2)] + [[a, b] for a in range(3, 32, 2) for b in range(a + 2, 32, 2)]:
            top = max(asked)
            told = self.hold(asked, top, 3)
            self.assertEqual(told[0], "web")
            ways = [cores for cores in plain_reach(99, len(told[1][1])) if cores >= set(asked)]
            beyond += any(max(cores) > top for cores in ways)
        self.assertGreater(beyond, 20)

    def test_sums_of_odd_ones_that_come_down(self):
        # These need a sum or a difference of two odd numbers, whose thing is even: an out or a part goes down.
        for asked, top in (
            ([43, 69], 69), ([43, -81], 81), ([5, 23, 45], 45), ([7, 19, 31], 31), ([7, 19, 39], 39), ([9, 21, 33], 33), ([9, 21, 41], 41),
            ([11, 23, 31], 31), ([13, 25, 33], 33), ([-13, 27, 31], 31), ([19, 31, 39], 39), ([19, 33, 37], 37), ([21, 33, 41], 41),
        ):
            web = self.hold(asked, top, 3)[1]
            self.assertEqual(len(web[1]), 3)
            shifts = [shift for deed in web[1] for shift in (deed[2], deed[4])] + [out[1] for out in web[2]]
            self.assertLess(min(shifts), 0)
            self.hold([8 * number for number in asked] + [0, 1, -asked[0]], top, 3)

    def test_many_lists(self):
        dice = chance(35)
        for _ in range(150):
            top, most = dice.choice(((99, 3), (99, 2), (31, 4), (23, 4), (63, 3), (45, 1), (32, 3)))
            asked = [dice.choice((1, -1)) * dice.randrange(top) << dice.choice((0, 0, 1, 5)) for _ in range(dice.randrange(1, 5))]
            self.hold(asked, top, most)

    def test_alike_shifted_and_turned_ones(self):
        for asked in ([7, 7], [7, -7, 14], [43, 86, -43, -172, 0, 43], [0, 11, 0, 11]):
            told = self.hold(asked, 99, 3)
            self.assertEqual(len(told[1][1]), len(self.hold([plain_core(max(asked))], 99, 3)[1][1]))

    def test_run(self):
        for asked in ([43, -86, 5], [83], [99, 97]):
            web = self.hold(asked, 99, 3)[1]
            for value in (0, 1, -7, SIXTY[1]):
                self.assertEqual(run_outs(web, [value]), [number * value for number in asked])
            self.assertLessEqual(len(bare(web)[1]), len(web[1]))
            self.assertEqual(pruned(web), web)

    def test_never_more_than_by_signs(self):
        for number in range(1, 100):
            told = self.hold([number], 99, 3)
            if told[0] == "web":
                self.assertLessEqual(len(told[1][1]), len(by_signs([number])[1]))

    def test_the_bounds(self):
        start = time.perf_counter()
        for asked in ([83, 89], [83, 89, 91], [89, 91, 93, 95, 97, 99], [43]):
            self.hold(asked, 99, 3)
        for asked in ([11, 13, 19, 21], [11, 13, 19, 21, 25], [23, 25, 27, 29], [29, 27, 25, 23, 21, 19]):
            self.hold(asked, 31, 4)
        self.assertLess(time.perf_counter() - start, 60)
        for top, most in ((100, 0), (100, 3), (99, 4), (32, 4), (31, 5), (1, 5), (10 ** 60 - 1, 0), (1, 10 ** 60 - 1)):
            for asked in ([43], [], [0, 1], [SIXTY[1]]):
                with self.assertRaises(TooMany):
                    fewest(asked, top, most)

    def test_the_paper_holds_for_other_numbers_that_want_the_same(self):
        told = fewest([43], 99, 3)
        self.assertIs(shows(told[2], [-86, 0, 172], 99, 2), True)
        self.assertIs(shows(copy.deepcopy(told[2]), [43, 7], 99, 2), True)
        self.assertIs(shows(told[2], [43], 99, 3), False)
        self.assertIs(shows(told[2], [45], 99, 2), False)

    def test_told_lists_are_the_askers_own(self):
        for asked, top, most in (([43, 0], 99, 3), ([43, 0], 99, 2), ([43, 53], 9, 2), ([1], 9, 2), ([3], 9, 0)):
            first = fewest(asked, top, most)
            kept = copy.deepcopy(first)
            spoilt = fewest(asked, top, most)
            for level in spoilt[-1] or []:
                level.clear()
            if spoilt[-1] is not None:
                spoilt[-1].append(None)
            if spoilt[0] == "web":
                spoilt[1][1].clear()
                spoilt[1][2].clear()
            self.assertEqual(first, kept)
            self.assertEqual(fewest(list(asked), top, most), kept)

    def test_by_name(self):
        self.assertEqual(fewest(numbers=[3], top=3, most=0), ("none", []))


if __name__ == "__main__":
    unittest.main()
