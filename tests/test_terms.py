"""What a web makes, term by term: promises 2, 3 (term by term) and 13."""

import copy
import unittest
from fractions import Fraction

from samples import doublings, plain_value, power, some_webs
from shiftsums.errors import ShiftError, TooMany
from shiftsums.runs import run_outs
from shiftsums.terms import terms, ways
from shiftsums.webs import is_web, out_numbers


def plain_terms(web, thing):
    """The terms of a thing, straight as the document tells them."""
    if thing < web[0]:
        return [(thing, 0, 1)]
    word, a, s, b, t = web[1][thing - web[0]]
    turn = -1 if word == "less" else 1
    return [(i, shift + s, sign) for i, shift, sign in plain_terms(web, a)] + [
        (i, shift + t, sign * turn) for i, shift, sign in plain_terms(web, b)
    ]


def with_ways(count):
    """A web of one input with a thing that has just so many ways, made of the bits of the number."""
    deeds, thing = [], 0
    for bit in bin(count)[3:]:
        deeds.append(("sum", thing, 0, thing, 1))
        thing = len(deeds)
        if bit == "1":
            deeds.append(("less", thing, 0, 0, 3))
            thing = len(deeds)
    return (1, deeds, [(thing, 0, 1), (thing, 2, -1), (0, 0, 0)])


class Ways(unittest.TestCase):
    def test_inputs(self):
        self.assertEqual(ways((1, [], [])), [1])
        self.assertEqual(ways((12, [], [])), [1] * 12)

    def test_told_by_hand(self):
        web = (2, [("sum", 0, 0, 1, 0), ("less", 2, 1, 2, 0), ("sum", 3, 0, 0, 9), ("less", 1, 0, 1, 0)], [])
        self.assertEqual(ways(web), [1, 1, 2, 4, 5, 2])

    def test_doublings(self):
        self.assertEqual(ways(doublings(60)), [2 ** k for k in range(61)])
        self.assertEqual(ways(doublings(300, "less")), [2 ** k for k in range(301)])

    def test_webs_of_all_sizes(self):
        for web in some_webs(8):
            kept = copy.deepcopy(web)
            told = ways(web)
            self.assertIs(type(told), list)
            self.assertEqual(told[:web[0]], [1] * web[0])
            self.assertEqual(len(told), web[0] + len(web[1]))
            for k, (word, a, s, b, t) in enumerate(web[1]):
                self.assertEqual(told[web[0] + k], told[a] + told[b])
            self.assertEqual(web, kept)

    def test_a_told_list_is_the_askers_own(self):
        web = doublings(3)
        first = ways(web)
        ways(web).clear()
        self.assertEqual(first, [1, 2, 4, 8])
        first.clear()
        self.assertEqual(ways(web), [1, 2, 4, 8])

    def test_by_name(self):
        self.assertEqual(ways(web=(1, [], [])), [1])


class Terms(unittest.TestCase):
    def hold(self, web, k):
        self.assertIs(is_web(web), True)
        kept = copy.deepcopy(web)
        told = terms(web, k)
        self.assertIs(type(told), list)
        self.assertEqual(told, sorted(told))
        for term in told:
            self.assertIs(type(term), tuple)
            self.assertEqual([type(part) for part in term], [int, int, int])
            self.assertIn(term[2], (1, -1))
        row = [sum((sign * power(shift) for i, shift, sign in told if i == place), Fraction(0)) for place in range(web[0])]
        self.assertEqual(tuple(row), out_numbers(web)[k])
        for values in ([1] * web[0], list(range(-3, web[0] - 3)), [10 ** 59 - place for place in range(web[0])]):
            self.assertEqual(plain_value(row, values), run_outs(web, values)[k])
        self.assertEqual(web, kept)
        return told

    def test_inputs(self):
        web = (2, [], [(0, 0, 1), (1, 0, 1), (1, 5, -1), (0, 0, 0)])
        self.assertEqual([terms(web, k) for k in range(4)], [[(0, 0, 1)], [(1, 0, 1)], [(1, 5, -1)], []])

    def test_told_by_hand(self):
        web = (2, [("less", 0, 3, 1, 0), ("sum", 2, 1, 2, 0), ("less", 0, 2, 2, 2)], [(3, 0, 1), (3, 1, -1), (4, 0, 1)])
        self.assertEqual(terms(web, 0), [(0, 3, 1), (0, 4, 1), (1, 0, -1), (1, 1, -1)])
        self.assertEqual(terms(web, 1), [(0, 4, -1), (0, 5, -1), (1, 1, 1), (1, 2, 1)])
        self.assertEqual(terms(web, 2), [(0, 2, 1), (0, 5, -1), (1, 2, 1)])

    def test_alike_ones_come_as_often_as_they_are_there(self):
        self.assertEqual(terms(doublings(5), 0), [(0, 0, 1)] * 32)
        self.assertEqual(terms(doublings(1, "less"), 0), [(0, 0, -1), (0, 0, 1)])
        self.assertEqual(terms(doublings(3, "less"), 0), [(0, 0, -1)] * 4 + [(0, 0, 1)] * 4)

    def test_noughts_have_none(self):
        web = doublings(60)[:2] + ([(0, 0, 0), (60, 0, 1), (0, 0, 0)],)
        self.assertEqual(terms(web, 0), [])
        self.assertEqual(terms(web, 2), [])
        with self.assertRaises(TooMany):
            terms(web, 1)

    def test_single_terms_may_be_fractions(self):
        web = (2, [("sum", 0, 0, 0, 0), ("less", 1, 2, 1, 1), ("sum", 2, -1, 3, -1), ("sum", 4, 0, 4, 0)], [(4, 0, -1), (5, -1, 1)])
        self.assertEqual(self.hold(web, 0), [(0, -1, -1), (0, -1, -1), (1, 0, 1), (1, 1, -1)])
        self.assertEqual(self.hold(web, 1), [(0, -2, 1)] * 4 + [(1, -1, -1)] * 2 + [(1, 0, 1)] * 2)
        web = (1, [("sum", 0, 1, 0, 0), ("sum", 1, 0, 0, 0)], [(2, -2, 1), (2, -1, -1)])
        self.assertEqual(self.hold(web, 0), [(0, -2, 1), (0, -2, 1), (0, -1, 1)])
        self.assertEqual(self.hold(web, 1), [(0, -1, -1), (0, -1, -1), (0, 0, -1)])

    def test_webs_of_all_sizes(self):
        for web in some_webs(9, 100):
            count = ways(web)
            for k, (thing, shift, sign) in enumerate(web[2]):
                if sign != 0 and count[thing] > 500:
                    with self.assertRaises(TooMany):
                        terms(web, k)
                    continue
                told = self.hold(web, k)
                if sign == 0:
                    self.assertEqual(told, [])
                    continue
                plain = [(i, its + shift, turn * sign) for i, its, turn in plain_terms(web, thing)]
                self.assertEqual(told, sorted(plain))
                self.assertEqual(len(told), count[thing])

    def test_just_five_hundred(self):
        for count in (1, 2, 255, 256, 499, 500):
            web = with_ways(count)
            self.assertEqual(ways(web)[web[2][0][0]], count)
            self.assertEqual(len(self.hold(web, 0)), count)
            self.assertEqual(len(self.hold(web, 1)), count)
        for count in (501, 502, 512, 1000, 10 ** 9):
            web = with_ways(count)
            for k in (0, 1):
                with self.assertRaises(TooMany):
                    terms(web, k)
                with self.assertRaises(ShiftError):
                    terms(web, k)
            self.assertEqual(terms(web, 2), [])

    def test_a_chain_of_four_hundred_and_ninety_nine_deeds(self):
        web = (1, [("sum", k, 0, 0, 0) for k in range(499)], [(499, 0, 1)])
        self.assertEqual(terms(web, 0), [(0, 0, 1)] * 500)

    def test_things_that_the_out_does_not_hang_on_make_no_work(self):
        ins, deeds, outs = doublings(60)
        web = (1, deeds + [("less", 0, 2, 1, 0)], [(61, 0, 1), (60, 0, 1), (3, 0, -1)])
        self.assertEqual(self.hold(web, 0), [(0, 0, -1), (0, 0, -1), (0, 2, 1)])
        self.assertEqual(self.hold(web, 2), [(0, 0, -1)] * 8)
        with self.assertRaises(TooMany):
            terms(web, 1)

    def test_a_told_list_is_the_askers_own(self):
        web = (1, [("sum", 0, 1, 0, 0)], [(1, 0, 1), (0, 0, 0)])
        first = terms(web, 0)
        terms(web, 0).clear()
        terms(web, 1).append(5)
        self.assertEqual(first, [(0, 0, 1), (0, 1, 1)])
        first.clear()
        self.assertEqual(terms(web, 0), [(0, 0, 1), (0, 1, 1)])
        self.assertEqual(terms(web, 1), [])

    def test_by_name(self):
        self.assertEqual(terms(web=(1, [], [(0, 1, 1)]), k=0), [(0, 1, 1)])


if __name__ == "__main__":
    unittest.main()
