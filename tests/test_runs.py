"""Webs run with values, and how deep they are: promises 2, 3 (all values), 11 and 12."""

import copy
import unittest

from samples import BOTH_SIGNS, SIXTY, chance, doublings, plain_out_rows, plain_rows, plain_value, some_webs
from shiftsums.errors import NoJoin, ShiftError
from shiftsums.runs import depth, depths, layers, run, run_outs
from shiftsums.webs import is_web, numbers, out_numbers, web_of


def some_values(dice, count):
    return [dice.choice((0, 1, -1, 2, -7, 1000, dice.randint(-10 ** 60 + 1, 10 ** 60 - 1), *BOTH_SIGNS)) for _ in range(count)]


class Run(unittest.TestCase):
    def hold(self, web, values):
        self.assertIs(is_web(web), True)
        kept = copy.deepcopy((web, values))
        told, ends = run(web, values), run_outs(web, values)
        self.assertEqual(told, [plain_value(row, values) for row in plain_rows(web)])
        self.assertEqual(ends, [plain_value(row, values) for row in plain_out_rows(web)])
        self.assertEqual(told, [plain_value(row, values) for row in numbers(web)])
        self.assertEqual(ends, [plain_value(row, values) for row in out_numbers(web)])
        self.assertEqual((type(told), type(ends)), (list, list))
        self.assertTrue(all(type(value) is int for value in told + ends))
        self.assertEqual((web, values), kept)
        self.assertIsNot(told, values)

    def test_told_by_hand(self):
        web = (1, [("less", 0, 3, 0, 0), ("sum", 1, 1, 1, 0)], [(1, 0, 1), (2, 2, -1), (0, 0, 0)])
        self.assertEqual(run(web, [5]), [5, 35, 105])
        self.assertEqual(run_outs(web, [5]), [35, -420, 0])
        self.assertEqual(run(web, [-1]), [-1, -7, -21])
        self.assertEqual(run_outs(web, [0]), [0, 0, 0])
        web = (2, [("less", 0, 1, 1, 2)], [(2, 0, 1), (1, 0, -1)])
        self.assertEqual(run(web, [10, 3]), [10, 3, 8])
        self.assertEqual(run_outs(web, [10, 3]), [8, -3])

    def test_without_deeds_or_outs(self):
        self.assertEqual(run((1, [], []), [9]), [9])
        self.assertEqual(run_outs((1, [], []), [9]), [])
        self.assertEqual(run((3, [], [(0, 0, 0)]), [7, 8, 9]), [7, 8, 9])
        self.assertEqual(run_outs((3, [], [(0, 0, 0), (2, 1, -1)]), [7, 8, 9]), [0, -18])

    def test_shifts_below_nought(self):
        web = (2, [("sum", 0, 5, 1, 3), ("less", 2, -3, 2, -2), ("sum", 2, -1, 2, 1)], [(2, -3, -1), (3, 4, 1), (4, -2, 1)])
        for values in ([1, 1], [-1, 0], [3, -5], [SIXTY[0], -SIXTY[1]]):
            self.hold(web, values)
        self.assertEqual(run(web, [3, -5]), [3, -5, 56, -7, 140])
        self.assertEqual(run_outs(web, [3, -5]), [-7, -112, 35])

    def test_long_values_of_either_sign(self):
        for web in ((1, [], [(0, 40, -1)]), doublings(60), (1, [("less", k, 40, k, 0) for k in range(60)], [(60, 40, 1)])):
            for value in (0, 1, -1, *BOTH_SIGNS):
                self.hold(web, [value])

    def test_webs_and_values_told_here(self):
        web = web_of(2, [("sum", k, 1, k + 1, 0) for k in range(299)] + [("less", 0, 4000, 1, 3000)], [(301, -3000, -1), (300, 0, 1)])
        values = [3, -5]
        self.hold(web, values)
        self.hold(web, run_outs(web, values))
        self.hold(web, run(web, values)[-2:])

    def test_webs_of_all_sizes(self):
        dice = chance(5)
        for web in some_webs(6, 100):
            for _ in range(3):
                self.hold(web, some_values(dice, web[0]))

    def test_another_number_of_values(self):
        for web in ((1, [], []), (2, [("sum", 0, 0, 1, 0)], [(2, 0, 1)]), (12, [], [(11, 0, 1)])):
            for count in (0, 1, 2, 3, 11, 12, 13, 300):
                values = [1] * count
                if count == web[0]:
                    self.hold(web, values)
                    continue
                for asked in (run, run_outs):
                    with self.assertRaises(NoJoin):
                        asked(web, values)
                    with self.assertRaises(ShiftError):
                        asked(web, values)
                self.assertEqual(values, [1] * count)

    def test_told_lists_are_the_askers_own(self):
        web, values = (1, [("sum", 0, 1, 0, 0)], [(1, 0, 1)]), [4]
        first = run(web, values), run_outs(web, values)
        values[0] = 5
        run(web, values).clear()
        run_outs(web, values).clear()
        self.assertEqual(first, ([4, 12], [12]))
        first[0][0] = 77
        self.assertEqual(values, [5])
        self.assertEqual((run(web, values), run_outs(web, values)), ([5, 15], [15]))
        told = run((1, [], []), values)
        told[0] = 8
        self.assertEqual(values, [5])

    def test_by_name(self):
        self.assertEqual(run(web=(1, [], []), values=[3]), [3])
        self.assertEqual(run_outs(values=[3], web=(1, [], [(0, 1, 1)])), [6])


def plain_depth(web, thing):
    if thing < web[0]:
        return 0
    word, a, s, b, t = web[1][thing - web[0]]
    return 1 + max(plain_depth(web, a), plain_depth(web, b))


class Depths(unittest.TestCase):
    # The things, by number: 0 and 1 are inputs, 2 and 3 one deep, 4 two deep (of 2 and 3), 5 three deep (of 4 and 0), 6 one.
    WEB = (2, [
        ("sum", 0, 0, 1, 0), ("less", 1, 3, 1, 0), ("sum", 2, 0, 3, 0), ("less", 4, 0, 0, 0), ("sum", 0, 0, 0, 0),
    ], [(4, 0, 1), (6, 0, -1), (0, 0, 0)])

    def test_told_by_hand(self):
        self.assertEqual(depths(self.WEB), [0, 0, 1, 1, 2, 3, 1])
        self.assertEqual(depth(self.WEB), 2)
        self.assertEqual(layers(self.WEB), [[0, 1], [2, 3, 6], [4], [5]])

    def test_inputs_alone(self):
        for ins in (1, 5, 12):
            web = (ins, [], [(ins - 1, 3, -1)])
            self.assertEqual(depths(web), [0] * ins)
            self.assertEqual(depth(web), 0)
            self.assertEqual(layers(web), [list(range(ins))])

    def test_the_outs_count_for_the_depth_of_a_web(self):
        ins, deeds, outs = self.WEB
        for ends, told in (
            ([], 0), ([(0, 0, 0)], 0), ([(0, 0, 0)] * 12, 0), ([(1, 0, 1)], 0), ([(6, 0, 1)], 1), ([(5, 0, -1)], 3),
            ([(6, 0, 1), (5, 0, 1), (2, 0, 1)], 3), ([(0, 0, 0), (2, 1, 1)], 1), ([(4, 0, 1), (0, 0, 0)], 2),
        ):
            self.assertEqual(depth((ins, deeds, ends)), told)
            self.assertEqual(depths((ins, deeds, ends)), [0, 0, 1, 1, 2, 3, 1])
            self.assertEqual(layers((ins, deeds, ends)), [[0, 1], [2, 3, 6], [4], [5]])

    def test_either_thing_of_a_deed_may_be_the_deeper_one(self):
        deeds = [("sum", 0, 0, 0, 0), ("sum", 1, 0, 0, 0), ("sum", 0, 0, 1, 0), ("less", 2, 0, 3, 0), ("less", 0, 0, 4, 0)]
        self.assertEqual(depths((1, deeds, [])), [0, 1, 2, 2, 3, 4])
        self.assertEqual(layers((1, deeds, [])), [[0], [1], [2, 3], [4], [5]])

    def test_a_chain_of_sixty_deeds(self):
        self.assertEqual(depths(doublings(60)), list(range(61)))
        self.assertEqual(depth(doublings(60)), 60)
        self.assertEqual(layers(doublings(60)), [[k] for k in range(61)])
        self.assertEqual(depth(doublings(300)), 300)

    def test_webs_of_all_sizes(self):
        for web in some_webs(7):
            kept = copy.deepcopy(web)
            if len(web[1]) <= 12:
                self.assertEqual(depths(web), [plain_depth(web, thing) for thing in range(web[0] + len(web[1]))])
            told = depths(web)
            for k, (word, a, s, b, t) in enumerate(web[1]):
                self.assertEqual(told[web[0] + k], 1 + max(told[a], told[b]))
            self.assertEqual(depth(web), max([told[out[0]] for out in web[2] if out[2] != 0], default=0))
            rows = layers(web)
            self.assertEqual(len(rows), max(told) + 1)
            self.assertEqual(sorted(sum(rows, [])), list(range(len(told))))
            for deep, row in enumerate(rows):
                self.assertEqual(row, [thing for thing, its in enumerate(told) if its == deep])
            self.assertEqual(web, kept)

    def test_told_lists_are_the_askers_own(self):
        first = depths(self.WEB), layers(self.WEB)
        kept = copy.deepcopy(first)
        depths(self.WEB).clear()
        layers(self.WEB)[0].clear()
        layers(self.WEB).clear()
        self.assertEqual(first, kept)
        first[0].clear()
        first[1][0].append(9)
        first[1][1].clear()
        self.assertEqual((depths(self.WEB), layers(self.WEB)), kept)

    def test_by_name(self):
        self.assertEqual(depths(web=(1, [], [])), [0])
        self.assertEqual(depth(web=(1, [], [])), 0)
        self.assertEqual(layers(web=(1, [], [])), [[0]])


if __name__ == "__main__":
    unittest.main()
