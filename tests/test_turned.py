"""Webs turned about: promises 2, 3 (what each input gives to each out) and 28."""

import copy
import unittest

from samples import SIXTY, chance, doublings, plain_out_rows, plain_used, shifts_of, some_web, some_webs, without_downs
from shiftsums.errors import Down, NoJoin, ShiftError
from shiftsums.joins import behind, beside, both
from shiftsums.rows import by_signs, deep
from shiftsums.runs import run_outs
from shiftsums.tidy import pruned
from shiftsums.turned import turned
from shiftsums.webs import is_web, out_numbers

ADDED = ("sum", 0, 1, 0, 0)


def most_deeds(web):
    truths = plain_used(web)
    return sum(truths[web[0]:]) + sum(out[2] != 0 for out in web[2]) - sum(truths[:web[0]])


class Turned(unittest.TestCase):
    def hold(self, web):
        kept = copy.deepcopy(web)
        told = turned(web)
        self.assertEqual(web, kept)
        self.assertIs(is_web(told), True, web)
        self.assertEqual(told[0], len(web[2]))
        self.assertEqual(len(told[2]), web[0])
        rows = plain_out_rows(web)
        turned_rows = [tuple(row[i] for row in rows) for i in range(web[0])]
        self.assertEqual(plain_out_rows(told), turned_rows)
        self.assertEqual(out_numbers(told), turned_rows)
        self.assertGreaterEqual(min(shifts_of(told)), 0)
        self.assertLessEqual(len(told[1]), most_deeds(web), web)
        values = [3 - 5 * place for place in range(told[0])]
        self.assertEqual(run_outs(told, values), [sum(x * y for x, y in zip(row, values)) for row in turned_rows])
        return told

    def hold_twice(self, web):
        again = self.hold(self.hold(web))
        self.assertEqual(out_numbers(again), out_numbers(web))

    def test_told_by_hand(self):
        self.assertEqual(self.hold((1, [], [(0, 0, 1)])), (1, [], [(0, 0, 1)]))
        self.assertEqual(self.hold((1, [], [(0, 3, -1)])), (1, [], [(0, 3, -1)]))
        self.assertEqual(self.hold((2, [], [(1, 3, -1)])), (1, [], [(0, 0, 0), (0, 3, -1)]))
        self.assertEqual(out_numbers(self.hold((2, [("sum", 0, 0, 1, 1)], [(2, 0, 1)]))), [(1,), (2,)])
        web = (2, [("less", 0, 0, 1, 2)], [(2, 0, 1), (0, 0, 1), (2, 1, -1)])
        self.assertEqual(out_numbers(self.hold(web)), [(1, 1, -2), (-4, 0, 8)])

    def test_an_adder_becomes_wires(self):
        told = self.hold((2, [("sum", 0, 0, 1, 0)], [(2, 0, 1)]))
        self.assertEqual(told, (1, [], [(0, 0, 1), (0, 0, 1)]))
        told = self.hold((12, [("sum", 0 if k == 0 else 11 + k, 0, k + 1, 0) for k in range(11)], [(22, 0, 1)]))
        self.assertEqual(told[1], [])

    def test_wires_become_adders(self):
        self.assertEqual(len(self.hold((1, [], [(0, 0, 1), (0, 0, 1)]))[1]), 1)
        self.assertEqual(len(self.hold((1, [], [(0, k, (-1) ** k) for k in range(12)]))[1]), 11)
        self.assertEqual(len(self.hold((1, [], [(0, 0, -1)] * 12))[1]), 11)

    def test_signs(self):
        for word in ("sum", "less"):
            for first in (1, -1):
                for second in (1, -1):
                    self.hold_twice((2, [(word, 0, 0, 1, 0), (word, 1, 0, 2, 1)], [(2, 0, first), (3, 2, second)]))
                    self.hold_twice((1, [], [(0, 0, first), (0, 1, second)]))
                    self.hold_twice((2, [(word, 0, 1, 1, 0)], [(2, 0, first), (0, 0, second), (1, 0, first), (2, 3, second)]))

    def test_deeds_whose_two_things_are_the_same(self):
        for word in ("sum", "less"):
            self.hold_twice((1, [(word, 0, 3, 0, 0)], [(1, 0, 1)]))
            self.hold_twice((1, [(word, 0, 0, 0, 0), (word, 1, 2, 1, 0)], [(2, 0, -1), (1, 0, 1)]))
        self.hold_twice(doublings(12))
        self.hold_twice(doublings(60))
        self.hold_twice(doublings(60, "less"))

    def test_noughts_among_the_outs(self):
        self.assertEqual(self.hold((1, [ADDED], [(0, 0, 0)])), (1, [], [(0, 0, 0)]))
        self.assertEqual(self.hold((3, [ADDED], [(0, 0, 0)] * 12)), (12, [], [(0, 0, 0)] * 3))
        self.hold_twice((2, [ADDED], [(0, 0, 0), (2, 0, 1), (0, 0, 0), (1, 0, -1)]))

    def test_inputs_and_deeds_that_are_not_used(self):
        web = (3, [("sum", 0, 0, 1, 0), ("sum", 2, 1, 3, 0), ("less", 1, 0, 1, 0)], [(3, 0, 1), (1, 0, 1)])
        told = self.hold(web)
        self.assertEqual(told[2][2], (0, 0, 0))
        self.assertLessEqual(len(told[1]), 1)
        # No input at all is used.
        self.assertEqual(self.hold((12, [("sum", 4, 0, 7, 2)], [(0, 0, 0)])), (1, [], [(0, 0, 0)] * 12))

    def test_outs_on_one_thing_and_on_inputs(self):
        self.hold_twice((2, [("sum", 0, 1, 1, 0)], [(2, 0, 1), (2, 0, 1), (2, 4, -1), (0, 0, 1), (1, 2, -1), (0, 0, 1)]))
        self.hold_twice((12, [], [(k, k, 1) for k in range(12)]))

    def test_things_with_noughts_alone(self):
        self.hold_twice((1, [("less", 0, 0, 0, 0), ("sum", 1, 5, 1, 0)], [(1, 0, 1), (2, 0, -1)]))

    def test_just_so_many_deeds_as_there_are_arrows(self):
        # In a web whose arrows all count, nothing is left out: so the bound is met, not undercut by chance.
        for web in (by_signs([SIXTY[1]]), deep([SIXTY[2]]), by_signs([7, 11, 43])):
            self.assertEqual(len(self.hold(web)[1]), most_deeds(web))

    def test_webs_of_all_sizes(self):
        dice = chance(50)
        for furthest in (0, 1, 2, 40):
            for web in some_webs(51 + furthest, 80, furthest):
                if web[2]:
                    self.hold_twice(without_downs(web))
        for ins in range(1, 13):
            for outs in range(1, 13):
                self.hold_twice(without_downs(some_web(dice, ins, dice.randrange(16), outs, 3)))

    def test_rows_and_joined_webs(self):
        row, pair = by_signs([45, -7, 0, 1]), without_downs(some_web(chance(52), 4, 9, 3))
        for web in (row, deep([SIXTY[0], 3]), behind(row, pair), beside(row, pair), both(row, row), pruned(pair), turned(pair)):
            self.hold_twice(web)
        far = behind((1, [], [(0, 40, 1)]), (1, [("sum", 0, 40, 0, 3)], [(1, 40, -1)]))
        self.hold_twice(behind(far, far))

    def test_told_lists_are_the_askers_own(self):
        web = (1, [ADDED], [(1, 0, 1), (0, 0, 1)])
        first = turned(web)
        kept = copy.deepcopy(first)
        spoilt = turned(web)
        spoilt[1].clear()
        spoilt[2].clear()
        self.assertEqual(first, kept)
        first[1].append(None)
        first[2].append(None)
        self.assertEqual(web, (1, [ADDED], [(1, 0, 1), (0, 0, 1)]))
        self.assertEqual(turned(web), kept)

    def test_by_name(self):
        self.assertEqual(turned(web=(1, [], [(0, 0, 1)])), (1, [], [(0, 0, 1)]))


class Refused(unittest.TestCase):
    def hold_down(self, web, at):
        self.assertIs(is_web(web), True)
        kept = copy.deepcopy(web)
        with self.assertRaises(Down) as caught:
            turned(web)
        self.assertEqual(caught.exception.at, at)
        self.assertIsInstance(caught.exception, ShiftError)
        self.assertEqual(web, kept)

    def test_down_in_a_deed(self):
        up, first, second = ("sum", 0, 1, 0, 3), ("sum", 1, -1, 0, 0), ("less", 0, 0, 1, -1)
        for down in (first, second, ("sum", 1, -1, 1, -1)):
            for outs in ([(2, 0, 1)], [(0, 0, 1)], [(0, 0, 0)], [], [(1, -1, 1)], [(1, 0, 1), (1, -1, 1)]):
                self.hold_down((1, [up, down], outs), 1)
                self.hold_down((1, [up, down, first], outs), 1)
                self.hold_down((1, [up, ADDED, ADDED, down], outs), 3)

    def test_down_in_an_out(self):
        deeds = [("sum", 0, 1, 0, 3)]
        self.hold_down((1, deeds, [(1, -1, 1)]), 1)
        self.hold_down((1, deeds, [(1, 0, 1), (0, 0, 0), (1, -1, -1), (1, -1, 1)]), 3)
        self.hold_down((1, deeds * 4, [(0, 0, 0)] * 11 + [(2, -1, 1)]), 15)

    def test_down_on_a_nought(self):
        self.hold_down((1, [("less", 0, 0, 0, 0)], [(1, -3, 1)]), 1)
        self.hold_down((1, [("less", 0, 0, 0, 0), ("sum", 1, -3, 0, 0)], []), 1)

    def test_no_outs(self):
        for web in ((1, [], []), (12, [], []), (1, [ADDED], []), (3, [("less", 2, 40, 1, 0)], [])):
            with self.assertRaises(NoJoin):
                turned(web)

    def test_the_first_down_of_many(self):
        for web in some_webs(54, 200, 3):
            places = [place for place, deed in enumerate(web[1]) if min(deed[2], deed[4]) < 0]
            places += [len(web[1]) + place for place, out in enumerate(web[2]) if out[1] < 0]
            if places:
                self.hold_down(web, places[0])


if __name__ == "__main__":
    unittest.main()
