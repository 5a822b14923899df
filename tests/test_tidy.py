"""Webs tidied: promises 2, 3 (webs make what they must), 18, 19 and 20."""

import copy
import unittest

from samples import chance, doublings, one_row, plain_out_rows, plain_rows, plain_used, some_web, some_webs
from shiftsums.rows import by_signs, deep
from shiftsums.tidy import bare, is_bare, pruned, used
from shiftsums.webs import is_web

ADDED = ("sum", 0, 1, 0, 0)


def many_webs(seed):
    """Webs with far shifts, and webs with near ones, in which many things are alike or noughts."""
    yield from some_webs(seed)
    for furthest in (0, 1, 2, 3):
        yield from some_webs(seed + furthest, 40, furthest)


def alike(one, other):
    for x, y in zip(one, other):
        if (x == 0) != (y == 0):
            return False
    ratios = {x / y for x, y in zip(one, other) if y != 0}
    if len(ratios) != 1:
        return False
    ratio = abs(ratios.pop())
    bits = (ratio.numerator, ratio.denominator)
    return all(number & (number - 1) == 0 for number in bits)


def plain_is_bare(web):
    rows = plain_rows(web)
    if any(not any(row) for row in rows):
        return False
    if any(alike(one, other) for k, one in enumerate(rows) for other in rows[:k]):
        return False
    return all(plain_used(web)[web[0]:])


class Used(unittest.TestCase):
    def test_told_by_hand(self):
        deeds = [("sum", 0, 1, 0, 0), ("less", 1, 1, 3, 0), ("sum", 4, 0, 0, 0), ("sum", 3, 0, 5, 0)]
        # The things: 0, 1, 2 are inputs, 3 of 0, 4 of 1 and 3, 5 of 4 and 0, 6 of 3 and 5.
        for outs, told in (
            ([], []), ([(0, 0, 0)], []), ([(0, 0, 0), (2, 0, 1)], [2]), ([(3, 0, 1)], [0, 3]), ([(3, 4, -1)], [0, 3]),
            ([(4, 0, 1)], [0, 1, 3, 4]), ([(6, 0, 1)], [0, 1, 3, 4, 5, 6]), ([(3, 0, 1), (0, 0, 0), (2, 0, -1)], [0, 2, 3]),
        ):
            self.assertEqual(used((3, deeds, outs)), [thing in told for thing in range(7)])

    def test_what_only_an_unused_deed_takes(self):
        web = (1, [("sum", 0, 1, 0, 0), ("sum", 1, 1, 1, 0), ("sum", 0, 2, 0, 0)], [(3, 0, 1)])
        self.assertEqual(used(web), [True, False, False, True])

    def test_inputs_that_are_not_used(self):
        self.assertEqual(used((3, [], [(1, 0, 1)])), [False, True, False])
        self.assertEqual(used((2, [("sum", 1, 0, 1, 0)], [(2, 0, 1)])), [False, True, True])
        self.assertEqual(used((12, [], [])), [False] * 12)

    def test_outs_with_the_sign_nought_use_nothing(self):
        self.assertEqual(used((2, [("sum", 0, 0, 0, 0)], [(0, 0, 0)] * 12)), [False] * 3)

    def test_a_chain_of_sixty_deeds(self):
        ins, deeds, outs = doublings(60)
        self.assertEqual(used((ins, deeds, outs)), [True] * 61)
        self.assertEqual(used((ins, deeds, [(30, 0, 1)])), [True] * 31 + [False] * 30)

    def test_webs_of_all_sizes(self):
        for web in many_webs(20):
            kept = copy.deepcopy(web)
            told = used(web)
            self.assertIs(type(told), list)
            self.assertTrue(all(type(truth) is bool for truth in told))
            self.assertEqual(told, plain_used(web))
            self.assertEqual(web, kept)

    def test_a_told_list_is_the_askers_own(self):
        web = doublings(2)
        first = used(web)
        used(web).clear()
        self.assertEqual(first, [True, True, True])
        first[0] = False
        self.assertEqual(used(web), [True, True, True])

    def test_by_name(self):
        self.assertEqual(used(web=(1, [], [])), [False])


class Pruned(unittest.TestCase):
    def hold(self, web):
        kept = copy.deepcopy(web)
        ins, deeds, outs = web
        told = pruned(web)
        self.assertIs(is_web(told), True)
        self.assertEqual(told[0], ins)
        truths = plain_used(web)
        stay = [k for k in range(len(deeds)) if truths[ins + k]]
        number = {thing: thing for thing in range(ins)}
        number.update({ins + k: ins + place for place, k in enumerate(stay)})
        self.assertEqual(told[1], [(deeds[k][0], number[deeds[k][1]], deeds[k][2], number[deeds[k][3]], deeds[k][4]) for k in stay])
        self.assertEqual(told[2], [(number[thing], shift, sign) for thing, shift, sign in outs])
        self.assertEqual(plain_out_rows(told), plain_out_rows(web))
        self.assertEqual(pruned(told), told)
        self.assertEqual(web, kept)
        self.assertIsNot(told[1], web[1])
        self.assertIsNot(told[2], web[2])
        return told

    def test_told_by_hand(self):
        web = (2, [("sum", 0, 1, 0, 0), ("less", 0, 0, 1, 3), ("sum", 2, 0, 3, 0), ("less", 3, 0, 1, 1)], [(5, 2, -1), (0, 0, 0)])
        self.assertEqual(self.hold(web), (2, [("less", 0, 0, 1, 3), ("less", 2, 0, 1, 1)], [(3, 2, -1), (0, 0, 0)]))

    def test_nothing_used(self):
        for ins in (1, 12):
            for outs in ([], [(0, 0, 0)], [(0, 0, 0)] * 12):
                self.assertEqual(self.hold((ins, [ADDED, ("less", ins, 0, 0, 0)], outs)), (ins, [], outs))

    def test_all_used(self):
        for web in (doublings(60), (3, [], [(2, 1, -1)]), (1, [ADDED, ("sum", 1, 0, 1, 2)], [(2, 0, 1)])):
            self.assertEqual(self.hold(web), web)

    def test_deeds_stay_in_order_and_alike_ones_too(self):
        web = (1, [ADDED, ADDED, ADDED, ("sum", 3, 0, 1, 0), ("less", 0, 0, 0, 0)], [(4, 0, 1), (5, 0, 1)])
        self.assertEqual(self.hold(web), (1, [ADDED, ADDED, ("sum", 2, 0, 1, 0), ("less", 0, 0, 0, 0)], [(3, 0, 1), (4, 0, 1)]))

    def test_webs_of_all_sizes(self):
        for web in many_webs(30):
            self.hold(web)

    def test_told_lists_are_the_askers_own(self):
        web = doublings(2)
        first = pruned(web)
        pruned(web)[1].clear()
        self.assertEqual(first, doublings(2))
        first[1].clear()
        first[2].clear()
        self.assertEqual(web, doublings(2))
        self.assertEqual(pruned(web), doublings(2))

    def test_by_name(self):
        self.assertEqual(pruned(web=(1, [ADDED], [])), (1, [], []))


class IsBare(unittest.TestCase):
    def hold(self, web, told):
        self.assertIs(is_web(web), True)
        kept = copy.deepcopy(web)
        self.assertIs(is_bare(web), told, web)
        self.assertEqual(web, kept)

    def test_bare_ones(self):
        self.hold((1, [], []), True)
        self.hold((1, [], [(0, 0, 0)]), True)
        self.hold((1, [], [(0, 5, -1), (0, 0, 1)]), True)
        self.hold((12, [], []), True)
        self.hold((1, [ADDED], [(1, 0, 1)]), True)
        self.hold((1, [ADDED, ("sum", 1, 2, 0, 0)], [(2, 0, 1), (1, 3, -1), (0, 0, 0)]), True)
        self.hold((2, [("sum", 0, 0, 1, 0), ("less", 0, 0, 1, 0), ("sum", 0, 0, 1, 1)], [(2, 0, 1), (3, 0, 1), (4, 0, 1)]), True)
        self.hold((1, [("sum", k, 1, k, 0) for k in range(60)], [(60, 0, 1)]), True)

    def test_an_input_alike_a_deed(self):
        for deed in (("sum", 0, 0, 0, 0), ("less", 0, 2, 0, 1), ("less", 0, 1, 0, 2), ("less", 0, 0, 0, 1), ("sum", 0, 4, 0, 4)):
            self.hold((1, [deed], [(1, 0, 1)]), False)
            self.hold((3, [deed], [(3, 0, 1)]), False)

    def test_two_deeds_alike(self):
        for deed in (
            ("sum", 0, 1, 0, 0), ("sum", 0, 0, 0, 1), ("less", 0, 2, 0, 0), ("less", 0, 0, 0, 2), ("sum", 0, 6, 0, 5),
            ("less", 0, 5, 0, 7), ("sum", 1, 3, 1, 3),
        ):
            self.hold((1, [ADDED, deed], [(1, 0, 1), (2, 0, 1)]), False)

    def test_by_a_shift_down(self):
        web = (1, [("sum", 0, 3, 0, 2), ("sum", 1, -2, 0, 3), ("less", 1, -2, 0, 1)], [(1, 0, 1), (2, 0, 1)])
        self.hold((web[0], web[1][:2], web[2]), True)
        self.hold((web[0], web[1], web[2] + [(3, 0, 1)]), False)
        self.hold((1, [("sum", 0, 3, 0, 2), ("sum", 0, 1, 0, 0)], [(1, 0, 1), (2, 0, 1)]), False)

    def test_with_several_inputs(self):
        both = ("sum", 0, 1, 1, 0)
        for deed, told in (
            (("sum", 0, 1, 1, 0), False), (("sum", 1, 0, 0, 1), False), (("sum", 0, 4, 1, 3), False),
            (("less", 2, 0, 2, 1), False), (("less", 1, 0, 0, 1), True), (("sum", 0, 0, 1, 1), True), (("sum", 0, 2, 1, 0), True),
            (("less", 2, 0, 1, 0), False), (("less", 2, 0, 0, 1), False), (("less", 2, 0, 0, 0), True),
        ):
            self.hold((2, [both, deed], [(2, 0, 1), (3, 0, 1)]), told)

    def test_noughts(self):
        self.hold((1, [("less", 0, 0, 0, 0)], [(1, 0, 1)]), False)
        self.hold((2, [("sum", 0, 0, 1, 0), ("less", 2, 3, 2, 3)], [(2, 0, 1), (3, 0, 1)]), False)

    def test_a_deed_that_is_not_used(self):
        self.hold((1, [ADDED], []), False)
        self.hold((1, [ADDED], [(0, 0, 0)]), False)
        self.hold((1, [ADDED, ("sum", 1, 2, 0, 0)], [(1, 0, 1)]), False)
        self.hold((1, [ADDED, ("sum", 1, 2, 0, 0)], [(2, 0, 1)]), True)

    def test_an_input_that_is_not_used(self):
        self.hold((2, [ADDED[:1] + (1, 1, 1, 0)], [(2, 0, 1)]), True)
        self.hold((5, [], [(3, 0, 1)]), True)

    def test_webs_of_all_sizes(self):
        truths = []
        for web in many_webs(40):
            self.hold(web, plain_is_bare(web))
            truths.append(is_bare(web))
        self.assertIn(True, truths)
        self.assertIn(False, truths)

    def test_by_name(self):
        self.assertIs(is_bare(web=(1, [], [])), True)


class Bare(unittest.TestCase):
    def hold(self, web):
        self.assertIs(is_web(web), True)
        kept = copy.deepcopy(web)
        told = bare(web)
        self.assertIs(is_web(told), True)
        self.assertIs(plain_is_bare(told), True)
        self.assertIs(is_bare(told), True)
        self.assertEqual(told[0], web[0])
        self.assertEqual(plain_out_rows(told), plain_out_rows(web))
        self.assertLessEqual(len(told[1]), sum(plain_used(web)[web[0]:]))
        self.assertEqual(web, kept)
        self.assertIsNot(told[1], web[1])
        self.assertIsNot(told[2], web[2])
        return told

    def test_alike_things_stand_once(self):
        web = (1, [ADDED, ("sum", 0, 6, 0, 5), ("less", 0, 0, 0, 2), ("sum", 1, 0, 2, 0)], [(3, 0, 1), (2, 0, 1), (4, 0, -1)])
        self.assertEqual(len(self.hold(web)[1]), 2)
        web = (1, [("sum", 0, 0, 0, 0), ("sum", 1, 3, 0, 2)], [(1, 0, 1), (2, 1, -1)])
        self.assertEqual(len(self.hold(web)[1]), 1)
        self.assertEqual(len(self.hold(doublings(60))[1]), 0)

    def test_what_is_made_first_may_be_shifted_up(self):
        # 12 is made first; the 3 that comes behind it, and what is made of that, is told by a shift down.
        web = (1, [("sum", 0, 3, 0, 2), ("sum", 0, 1, 0, 0), ("sum", 2, 0, 0, 3), ("less", 2, 0, 1, 1)], [
            (1, 0, 1), (2, 0, -1), (3, 0, 1), (4, 0, 1), (2, 5, 1),
        ])
        self.assertEqual(len(self.hold(web)[1]), 3)

    def test_turned_things(self):
        for signs in ((("less", 0, 0, 0, 2), ("less", 0, 0, 0, 3)), (("less", 0, 2, 0, 0), ("less", 0, 0, 0, 3))):
            for word in ("sum", "less"):
                for ends in ([(5, 0, 1), (5, 1, -1)], [(5, 0, -1), (4, 0, 1), (3, 0, 1)]):
                    deeds = list(signs) + [("less", 0, 3, 0, 5), ("less", 0, 5, 0, 2), (word, 3, 0, 4, 0)]
                    self.hold((1, deeds, ends))

    def test_all_signs_of_both_parts(self):
        # Each of the last deed's things is alike an earlier one, turned or not; so both parts come with either sign.
        pairs = (("less", 0, 2, 0, 0), ("less", 0, 0, 0, 2)), (("less", 0, 4, 0, 0), ("less", 0, 0, 0, 4))
        for one in (0, 1):
            for other in (0, 1):
                for word in ("sum", "less"):
                    deeds = [pairs[0][0], pairs[1][0], pairs[0][one], pairs[1][other], (word, 3, 1, 4, 0)]
                    told = self.hold((1, deeds, [(5, 0, 1), (1, 0, 1), (2, 0, 1)]))
                    self.assertLessEqual(len(told[1]), 3)

    def test_noughts(self):
        web = (2, [("less", 0, 0, 0, 0), ("sum", 2, 3, 1, 1), ("less", 1, 0, 2, 4), ("sum", 2, 0, 2, 7)], [
            (2, 0, 1), (3, 0, 1), (4, 2, -1), (5, 0, -1), (2, -3, 1), (0, 0, 0),
        ])
        told = self.hold(web)
        self.assertEqual(told, (2, [], [(0, 0, 0), (1, 1, 1), (1, 2, -1), (0, 0, 0), (0, 0, 0), (0, 0, 0)]))
        self.hold((1, [("less", 0, 0, 0, 0)] * 60, [(60, 0, 1)] * 12))

    def test_what_is_not_used_is_not_called_back(self):
        # The first 45 is not used and takes two deeds more than the one that is made of the used 5.
        web = (1, [("sum", 0, 1, 0, 0), ("sum", 1, 2, 1, 0), ("sum", 2, 1, 2, 0), ("sum", 0, 2, 0, 0), ("sum", 4, 3, 4, 0)], [(5, 0, 1)])
        self.assertEqual(len(self.hold(web)[1]), 2)

    def test_things_that_only_alike_ones_needed_are_left_out(self):
        # Both ways to 15 are used; the second one's own 5 is then needed no more.
        web = (1, [("sum", 0, 1, 0, 0), ("sum", 1, 2, 1, 0), ("sum", 0, 2, 0, 0), ("sum", 3, 1, 3, 0)], [(2, 0, 1), (4, 0, 1)])
        self.assertEqual(len(self.hold(web)[1]), 2)

    def test_far_shifts(self):
        for up in (("sum", 40), ("less", 39)):
            deeds = [(up[0], k, 40, k, up[1]) for k in range(60)]
            told = self.hold((1, deeds, [(60, 40, -1), (30, 0, 1), (0, 0, 1)]))
            self.assertEqual(told[1], [])
        deeds = [("sum", k, 40, 0, 40) for k in range(59)] + [("less", 59, -40, 1, -40)]
        self.hold((1, deeds, [(60, 0, 1), (60, 40, -1), (59, -40, 1)]))
        up = [("sum", k, 40, k, 40) for k in range(29)]
        down = [("less", k, -40, 0, 0) if k == 29 else ("sum", k - 29, 40, 0, 40) for k in range(29, 60)]
        self.hold((1, up + down, [(k, 40, 1) for k in range(49, 61)]))

    def test_twelve_inputs(self):
        deeds = [("sum", k, 0, k + 1, k % 5) for k in range(11)] + [("less", 12 + k % 11, k % 7, 22 - k % 11, k % 3) for k in range(49)]
        self.hold((12, deeds, [(60 + k, 0, -1) for k in range(12)]))
        self.hold((12, [], [(k, k, 1) for k in range(12)]))
        self.hold((12, [("less", 11, 3, 11, 3)], [(12, 0, 1)] * 12))

    def test_sixty_deeds(self):
        dice = chance(50)
        for furthest in (0, 1, 2, 5, 40):
            for ins in (1, 2, 3, 12):
                self.hold(some_web(dice, ins, 60, 12, furthest))

    def test_bare_already(self):
        for web in (
            (1, [], []), (12, [], [(11, 3, -1)]), (1, [ADDED], [(1, 0, 1), (0, 0, 0)]),
            (1, [("sum", k, 1, k, 0) for k in range(60)], [(60, 0, 1)]),
        ):
            self.assertEqual(len(self.hold(web)[1]), len(web[1]))

    def test_webs_of_all_sizes(self):
        for web in many_webs(60):
            told = self.hold(web)
            self.assertEqual(len(self.hold(told)[1]), len(told[1]))

    def test_webs_told_here(self):
        numbers = [10 ** 60 - 1, -(10 ** 59) - 7, 3 * 10 ** 58 + 1, 7 ** 70, -(5 ** 85), 11 ** 57]
        for web in (by_signs(numbers), deep(numbers)):
            self.assertGreater(len(web[1]), 60)
            self.hold(web)

    def test_told_lists_are_the_askers_own(self):
        web = (1, [ADDED, ADDED], [(1, 0, 1), (2, 0, 1)])
        first = bare(web)
        kept = copy.deepcopy(first)
        bare(web)[1].clear()
        bare(web)[2].clear()
        self.assertEqual(first, kept)
        first[1].clear()
        self.assertEqual(bare(web), kept)
        self.assertEqual(web, (1, [ADDED, ADDED], [(1, 0, 1), (2, 0, 1)]))

    def test_by_name(self):
        self.assertEqual(bare(web=(1, [ADDED], [])), (1, [], []))


class Alike(unittest.TestCase):
    def test_the_tests_own_ruler(self):
        rows = plain_rows((2, [("sum", 0, 1, 1, 0), ("less", 0, 0, 0, 0)], []))
        turned = one_row(("less", 3, 0, 2, 4), rows)
        self.assertTrue(alike(rows[2], turned))
        self.assertFalse(alike(rows[2], rows[0]))
        self.assertFalse(alike(rows[0], rows[1]))


if __name__ == "__main__":
    unittest.main()
