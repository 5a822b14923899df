"""Webs behind and beside one another: promises 2, 3 (webs make what they must), 26 and 27."""

import copy
import unittest

from samples import SIXTY, chance, doublings, plain_out_rows, plain_rows, plain_value, shifts_of, some_web, without_downs
from shiftsums.errors import NoJoin
from shiftsums.fewest import fewest
from shiftsums.joins import behind, beside, both
from shiftsums.rows import by_signs, deep
from shiftsums.runs import run_outs
from shiftsums.shared import shared
from shiftsums.tidy import bare, pruned
from shiftsums.webs import is_web, out_numbers

ADDED = ("sum", 0, 1, 0, 0)
THREE = (1, [ADDED], [(1, 0, 1)])
FEW = (0, 1, 2, 5, 11)


def product(one, other):
    first, second = plain_out_rows(one), plain_out_rows(other)
    return [tuple(sum(row[j] * first[j][i] for j in range(other[0])) for i in range(one[0])) for row in second]


def pairs(seed, count, fits):
    """Pairs of webs, of all sizes, with near and with far shifts; fits tells the other's inputs from the one."""
    dice = chance(seed)
    for _ in range(count):
        furthest = dice.choice((0, 1, 3, 40))
        one = some_web(dice, dice.choice((1, 1, 2, 3, 6)), dice.choice(FEW), dice.randrange(1, 7), furthest)
        yield one, some_web(dice, fits(dice, one), dice.choice(FEW), dice.randrange(6), furthest)
    one = some_web(dice, 6, 60, 6)
    yield one, some_web(dice, 6, 60, 6)


class Joins(unittest.TestCase):
    def hold(self, join, one, other):
        kept = copy.deepcopy((one, other))
        told = join(one, other)
        self.assertEqual((one, other), kept)
        self.assertIs(is_web(told), True, (one, other))
        for part in (1, 2):
            self.assertIsNot(told[part], one[part])
            self.assertIsNot(told[part], other[part])
        if min(shifts_of(one) + shifts_of(other), default=0) >= 0:
            self.assertGreaterEqual(min(shifts_of(told), default=0), 0)
        return told

    def hold_own(self, join, one, other):
        first = join(one, other)
        kept = copy.deepcopy(first)
        spoilt = join(one, other)
        spoilt[1].clear()
        spoilt[2].clear()
        self.assertEqual(first, kept)
        handed = copy.deepcopy((one, other))
        first[1].append(None)
        first[2].append(None)
        self.assertEqual((one, other), handed)
        self.assertEqual(join(one, other), kept)
        first = join(one, other)
        one[1].clear()
        other[2].clear()
        self.assertEqual(first, kept)


class Behind(Joins):
    def hold_behind(self, one, other):
        told = self.hold(behind, one, other)
        self.assertEqual(told[0], one[0])
        self.assertEqual(plain_out_rows(told), product(one, other))
        self.assertEqual(out_numbers(told), product(one, other))
        self.assertLessEqual(len(told[1]), len(one[1]) + len(other[1]))
        for value in (1, -3, SIXTY[1]):
            values = [value + 7 * place for place in range(one[0])]
            self.assertEqual(run_outs(told, values), run_outs(other, run_outs(one, values)))
        return told

    def test_told_by_hand(self):
        self.assertEqual(out_numbers(self.hold_behind(THREE, THREE)), [(9,)])
        # The first makes x + y and y - x, the second 3 times the first of its inputs less the second.
        one = (2, [("sum", 0, 0, 1, 0), ("less", 1, 0, 0, 0)], [(2, 0, 1), (3, 0, 1)])
        other = (2, [ADDED, ("less", 2, 0, 1, 0)], [(3, 0, 1), (1, 0, -1), (0, 0, 0)])
        self.assertEqual(out_numbers(self.hold_behind(one, other)), [(4, 2), (1, -1), (0, 0)])

    def test_the_order_matters(self):
        one = (1, [], [(0, 0, 1), (0, 1, 1)])
        other = (2, [("less", 0, 0, 1, 0)], [(2, 0, 1)])
        self.assertEqual(out_numbers(self.hold_behind(one, other)), [(-1,)])
        self.assertEqual(out_numbers(self.hold_behind(other, one)), [(1, -1), (2, -2)])
        with self.assertRaises(NoJoin):
            behind(one, one)
        with self.assertRaises(NoJoin):
            behind(other, other)

    def test_webs_without_deeds(self):
        self.assertEqual(self.hold_behind((1, [], [(0, 3, 1)]), (1, [], [(0, 2, 1)])), (1, [], [(0, 5, 1)]))
        self.assertEqual(self.hold_behind((1, [], [(0, 3, -1)]), (1, [], [(0, 2, -1), (0, 0, -1)])), (1, [], [(0, 5, 1), (0, 3, 1)]))
        self.assertEqual(self.hold_behind((1, [], [(0, 3, 1)]), (1, [], [])), (1, [], []))
        self.hold_behind(THREE, (1, [], [(0, 2, -1)]))
        self.hold_behind((1, [], [(0, 2, -1)]), THREE)
        self.hold_behind((3, [], [(2, 0, 1), (0, 0, 1)]), (2, [], [(1, 0, 1), (0, 1, -1), (1, 4, 1)]))

    def test_without_outs(self):
        told = self.hold_behind(THREE, (1, [ADDED], []))
        self.assertEqual(told[2], [])
        for ins in (1, 2, 12):
            with self.assertRaises(NoJoin):
                behind((1, [ADDED], []), (ins, [], [(0, 0, 1)]))

    def test_noughts_among_the_outs_of_the_one(self):
        nought = (1, [], [(0, 0, 0)])
        self.assertEqual(out_numbers(self.hold_behind(nought, THREE)), [(0,)])
        pair = (1, [ADDED], [(0, 0, 0), (1, 0, 1)])
        for word in ("sum", "less"):
            for a, b in ((0, 1), (1, 0), (0, 0), (1, 1)):
                for s, t in ((0, 0), (2, 1), (0, 3)):
                    other = (2, [(word, a, s, b, t), ("less", 2, 1, 1, 0), ("sum", 0, 0, 2, 2)], [(k, 1, sign) for k in range(5) for sign in (1, -1)])
                    self.hold_behind(pair, other)
                    self.hold_behind((1, [ADDED], [(1, 4, -1), (0, 0, 0)]), other)
                    self.hold_behind((1, [], [(0, 0, 0), (0, 0, 0)]), other)

    def test_a_chain_on_a_nought(self):
        ins, deeds, outs = (2, [("sum", 0 if k == 0 else k + 1, 2, 1, 3) for k in range(5)], [(6, 0, 1), (3, 0, -1)])
        self.hold_behind((1, [ADDED], [(1, 0, -1), (0, 0, 0)]), (ins, deeds, outs))
        self.hold_behind((1, [ADDED], [(0, 0, 0), (1, 0, -1)]), (ins, deeds, outs))

    def test_noughts_among_the_outs_of_the_other(self):
        told = self.hold_behind(THREE, (1, [ADDED], [(0, 0, 0), (1, 0, 1), (0, 0, 0)]))
        self.assertEqual(told[2][0], (0, 0, 0))
        self.assertEqual(out_numbers(told), [(0,), (9,), (0,)])

    def test_signs(self):
        for first in (1, -1):
            for second in (1, -1):
                for word in ("sum", "less"):
                    one = (2, [], [(0, 1, first), (1, 0, second)])
                    other = (2, [(word, 0, 0, 1, 1), (word, 1, 0, 2, 0), (word, 2, 0, 2, 2)], [(k, 0, sign) for k in range(5) for sign in (1, -1)])
                    self.hold_behind(one, other)

    def test_several_outs_on_one_thing(self):
        one = (2, [("sum", 0, 0, 1, 2)], [(2, 0, 1), (2, 0, -1), (2, 3, 1), (0, 0, 1), (2, 0, 1)])
        other = (5, [("less", 0, 0, 1, 0), ("sum", 5, 0, 2, 0), ("less", 4, 1, 3, 0)], [(5, 0, 1), (6, 0, -1), (7, 0, 1), (7, 1, -1)])
        self.hold_behind(one, other)

    def test_shifts_up_and_down(self):
        one = (1, [("sum", 0, 4, 0, 6)], [(1, -3, -1), (1, -4, 1), (1, 0, 1)])
        other = (3, [("sum", 0, 0, 0, 0), ("less", 3, -1, 1, 2), ("sum", 2, 40, 4, 40)], [(3, -1, 1), (5, -40, -1), (4, 3, 1)])
        self.hold_behind(one, other)
        far = (1, [("sum", 0, 40, 0, 40)], [(1, 40, -1)])
        self.hold_behind(far, (1, [("less", 0, 40, 0, 39)], [(1, -39, 1), (0, 40, -1)]))

    def test_many_pairs(self):
        for one, other in pairs(40, 400, lambda dice, one: len(one[2])):
            self.hold_behind(one, other)
            self.hold_behind(without_downs(one), without_downs(other))

    def test_twelve(self):
        dice = chance(41)
        for _ in range(10):
            self.hold_behind(some_web(dice, 12, 20, 12), some_web(dice, 12, 20, 12))
            self.hold_behind(some_web(dice, 1, 60, 12), some_web(dice, 12, 60, 1))
            self.hold_behind(some_web(dice, 12, 60, 1), some_web(dice, 1, 60, 12))

    def test_another_number_of_inputs(self):
        dice = chance(42)
        for outs in (0, 1, 2, 5, 12):
            one = some_web(dice, 2, 3, outs)
            for ins in range(1, 13):
                other = some_web(dice, ins, 3, 3)
                if ins == outs:
                    self.hold_behind(one, other)
                else:
                    with self.assertRaises(NoJoin):
                        behind(one, other)

    def test_what_was_told_here(self):
        rows = [maker([SIXTY[1]]) for maker in (by_signs, deep)] + [shared([999999999989]), fewest([43], 99, 3)[1]]
        for one in rows:
            for other in rows:
                told = self.hold_behind(one, other)
                self.hold_behind(told, THREE)
                self.hold_behind(bare(told), pruned(THREE))
        self.hold_behind(by_signs([3, -5, 0]), (3, [("sum", 0, 0, 1, 0), ("less", 3, 0, 2, 0)], [(4, 0, 1)]))

    def test_told_lists_are_the_askers_own(self):
        self.hold_own(behind, (1, [ADDED], [(1, 0, 1)]), (1, [ADDED], [(1, 0, 1)]))

    def test_the_same_web_twice(self):
        web = (1, [ADDED], [(1, 0, -1)])
        self.assertEqual(out_numbers(self.hold_behind(web, web)), [(9,)])

    def test_by_name(self):
        told = behind(other=(1, [], [(0, 0, -1), (0, 2, 1)]), one=THREE)
        self.assertEqual(out_numbers(told), [(-3,), (12,)])


class Beside(Joins):
    def hold_beside(self, one, other):
        told = self.hold(beside, one, other)
        self.assertEqual(told[0], one[0] + other[0])
        rows = [row + (0,) * other[0] for row in plain_out_rows(one)] + [(0,) * one[0] + row for row in plain_out_rows(other)]
        self.assertEqual(plain_out_rows(told), rows)
        self.assertEqual(out_numbers(told), rows)
        self.assertEqual(len(told[1]), len(one[1]) + len(other[1]))
        self.assertEqual([out for out in told[2] if out[2] == 0], [(0, 0, 0)] * sum(out[2] == 0 for out in one[2] + other[2]))
        return told

    def test_told_by_hand(self):
        one = (1, [ADDED, ("sum", 1, 0, 0, 0)], [(2, 0, 1), (0, 0, 0)])
        other = (2, [("less", 1, 2, 0, 0)], [(2, 0, -1), (0, 0, 0), (1, 1, 1)])
        self.assertEqual(out_numbers(self.hold_beside(one, other)), [(4, 0, 0), (0, 0, 0), (0, 1, -4), (0, 0, 0), (0, 0, 2)])
        self.assertEqual(self.hold_beside((1, [], []), (1, [], [])), (2, [], []))

    def test_things_that_are_not_used_stay(self):
        one = (2, [("sum", 0, 0, 0, 0), ("less", 2, 0, 2, 0)], [])
        other = (1, [ADDED, ("less", 1, 0, 1, 0)], [(0, 0, 0)])
        told = self.hold_beside(one, other)
        self.assertEqual([row[:2] for row in plain_rows(told)[3:5]], plain_rows(one)[2:])

    def test_many_pairs(self):
        for one, other in pairs(43, 300, lambda dice, one: dice.randrange(1, 7)):
            self.hold_beside(one, other)
            self.hold_beside(without_downs(one), without_downs(other))

    def test_the_bounds(self):
        dice = chance(44)
        for ones, others in ((11, 1), (1, 11), (6, 6), (12, 1), (1, 12), (7, 6), (12, 12)):
            one, other = some_web(dice, ones, 3, 2), some_web(dice, others, 3, 2)
            if ones + others <= 12:
                self.hold_beside(one, other)
            else:
                with self.assertRaises(NoJoin):
                    beside(one, other)
            one, other = some_web(dice, 1, 3, ones), some_web(dice, 2, 3, others)
            if ones + others <= 12:
                self.hold_beside(one, other)
            else:
                with self.assertRaises(NoJoin):
                    beside(one, other)
        self.hold_beside(some_web(dice, 6, 60, 12), some_web(dice, 6, 60, 0))
        self.hold_beside(some_web(dice, 6, 60, 0), some_web(dice, 6, 60, 12))

    def test_noughts_count_as_outs(self):
        nought = (1, [], [(0, 0, 0)] * 6)
        self.hold_beside(nought, nought)
        with self.assertRaises(NoJoin):
            beside(nought, (1, [], [(0, 0, 0)] * 7))

    def test_what_was_told_here(self):
        for one in (by_signs([SIXTY[1], 0]), deep([45, SIXTY[2]]), shared([7, 11]), fewest([43, 0], 99, 3)[1]):
            told = self.hold_beside(one, one)
            self.hold_beside(told, one)
            self.hold_beside(bare(told), doublings(60))

    def test_told_lists_are_the_askers_own(self):
        self.hold_own(beside, (1, [ADDED], [(1, 0, 1)]), (1, [ADDED], [(1, 0, 1)]))

    def test_by_name(self):
        self.assertEqual(out_numbers(beside(other=THREE, one=(1, [], [(0, 0, 1)]))), [(1, 0), (0, 3)])


class Both(Joins):
    def hold_both(self, one, other):
        told = self.hold(both, one, other)
        self.assertEqual(told[0], one[0])
        rows = plain_out_rows(one) + plain_out_rows(other)
        self.assertEqual(plain_out_rows(told), rows)
        self.assertEqual(out_numbers(told), rows)
        self.assertEqual(len(told[1]), len(one[1]) + len(other[1]))
        values = [5 - 9 * place for place in range(one[0])]
        self.assertEqual(run_outs(told, values), [plain_value(row, values) for row in rows])
        return told

    def test_told_by_hand(self):
        one = (2, [("sum", 0, 0, 1, 1)], [(2, 0, 1), (0, 0, 0)])
        other = (2, [("less", 1, 2, 0, 0), ("sum", 2, 0, 2, 1)], [(3, 0, -1), (0, 1, 1)])
        self.assertEqual(out_numbers(self.hold_both(one, other)), [(1, 2), (0, 0), (3, -12), (2, 0)])
        self.assertEqual(self.hold_both((1, [], []), (1, [], [])), (1, [], []))

    def test_many_pairs(self):
        for one, other in pairs(45, 300, lambda dice, one: one[0]):
            self.hold_both(one, other)
            self.hold_both(without_downs(one), without_downs(other))

    def test_the_same_web_twice(self):
        self.assertEqual(out_numbers(self.hold_both(THREE, THREE)), [(3,), (3,)])

    def test_the_bounds(self):
        dice = chance(46)
        for ins in (1, 2, 12):
            for ones, others in ((12, 0), (0, 12), (6, 6), (1, 11), (12, 1), (1, 12), (7, 6), (12, 12)):
                one, other = some_web(dice, ins, 3, ones), some_web(dice, ins, 3, others)
                if ones + others <= 12:
                    self.hold_both(one, other)
                else:
                    with self.assertRaises(NoJoin):
                        both(one, other)

    def test_unlike_numbers_of_inputs(self):
        dice = chance(47)
        for ones in range(1, 13):
            for others in range(1, 13):
                one, other = some_web(dice, ones, 2, 2), some_web(dice, others, 2, 2)
                if ones == others:
                    self.hold_both(one, other)
                else:
                    with self.assertRaises(NoJoin):
                        both(one, other)

    def test_what_was_told_here(self):
        for one in (by_signs([SIXTY[1], 0]), deep([45, SIXTY[2]]), shared([7, 11]), fewest([43, 0], 99, 3)[1]):
            told = self.hold_both(one, one)
            self.hold_both(bare(told), self.hold_both(told, one))

    def test_told_lists_are_the_askers_own(self):
        self.hold_own(both, (1, [ADDED], [(1, 0, 1)]), (1, [ADDED], [(1, 0, 1)]))

    def test_by_name(self):
        self.assertEqual(out_numbers(both(other=THREE, one=(1, [], [(0, 0, 1)]))), [(1,), (3,)])


if __name__ == "__main__":
    unittest.main()
