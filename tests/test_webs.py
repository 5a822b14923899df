"""What a web is, its numbers and its arrows: promises 2, 8, 9, 10 and 14."""

import copy
import unittest

from samples import ANYTHING, chance, plain_out_rows, plain_rows, some_web, some_webs
from shiftsums.errors import NoWeb, ShiftError
from shiftsums.webs import arrows, is_web, numbers, out_numbers, web_of

TWELVE = [(k, 0, 1) for k in range(12)]
GOOD = (
    (1, [], []),
    (12, [], []),
    (12, [], TWELVE),
    (1, [], [(0, 0, 1)]),
    (1, [], [(0, 0, -1)]),
    (1, [], [(0, 0, 0)]),
    (1, [], [(0, 0, 0)] * 12),
    (3, [], [(2, 5, -1), (0, 0, 0), (2, 5, -1)]),
    (1, [("sum", 0, 0, 0, 0)], []),
    (1, [("less", 0, 3, 0, 0)], [(1, 0, 1)]),
    (1, [("less", 0, 0, 0, 0)], [(1, -4000, 1), (1, 4000, -1), (1, 0, 1)]),
    (1, [("sum", 0, 4000, 0, 4000)], [(1, -4000, 1)]),
    (1, [("sum", 0, 4000, 0, 4000), ("less", 1, -4000, 1, -4000)], [(1, 4000, 1), (2, -4000, -1)]),
    (2, [("sum", 0, 1, 1, 1), ("less", 2, -1, 0, 0)], [(2, -1, 1), (3, 0, 1)]),
    (12, [("sum", k, 0, k + 1, 2) for k in range(60)], TWELVE[:11] + [(71, 40, -1)]),
)
# What no thing's number, shift or sign is, whatever the web.
NO_NUMBERS = (None, True, False, "", "0", "1", [], [0], (), (0,), {}, {0: 0})


def put(parts, place, thing):
    return parts[:place] + (thing,) + parts[place + 1:]


class Webs(unittest.TestCase):
    def hold_wrong(self, ins, deeds, outs, at):
        kept = copy.deepcopy((ins, deeds, outs))
        self.assertIs(is_web((ins, deeds, outs)), False, kept)
        with self.assertRaises(NoWeb) as taken:
            web_of(ins, deeds, outs)
        self.assertEqual(taken.exception.at, at, kept)
        self.assertIs(type(taken.exception.at), type(at), kept)
        self.assertEqual((ins, deeds, outs), kept)

    def hold_good(self, ins, deeds, outs):
        kept = copy.deepcopy((ins, deeds, outs))
        self.assertIs(is_web((ins, deeds, outs)), True, kept)
        told = web_of(ins, deeds, outs)
        self.assertEqual(told, kept)
        self.assertEqual((ins, deeds, outs), kept)
        self.assertEqual((type(told), type(told[1]), type(told[2])), (tuple, list, list))
        self.assertIsNot(told[1], deeds)
        self.assertIsNot(told[2], outs)
        self.assertIs(is_web(told), True)

    def test_webs(self):
        for ins, deeds, outs in GOOD:
            self.hold_good(ins, deeds, outs)
        for ins in range(1, 13):
            self.hold_good(ins, [], [])
        for web in some_webs(1):
            self.hold_good(*web)

    def test_three_hundred_deeds(self):
        self.hold_good(1, [("sum", k, 1, k, 0) for k in range(300)], [(300, 0, 1)])
        self.hold_good(2, [("less", k, 40, k + 1, 39) for k in range(300)], [])
        deeds = [("sum", k, 1, k, 0) for k in range(300)]
        self.hold_wrong(1, deeds[:299] + [("sum", 300, 1, 0, 0)], [], 299)

    def test_of_anything(self):
        for thing in ANYTHING:
            kept = copy.deepcopy(thing)
            self.assertIs(is_web(thing), False, repr(thing))
            self.assertEqual(thing, kept)
        for web in GOOD:
            for thing in (list(web), web[:2], web + ([],), (web,), [web], {0: web}, put(web, 1, tuple(web[1]))):
                self.assertIs(is_web(thing), False, repr(thing))

    def test_wrong_ins(self):
        for ins in (0, 13, -1, 10 ** 60, True, False, None, "1", [1], (1,), {}, ""):
            self.hold_wrong(ins, [], [], None)
            self.hold_wrong(ins, [None], [None], None)
            self.hold_wrong(ins, [("sum", 0, 0, 0, 0)], [(0, 0, 1)], None)

    def test_deeds_or_outs_no_list(self):
        for thing in (None, True, False, 0, 1, "", "ab", (), (("sum", 0, 0, 0, 0),), ((0, 0, 1),), {}, {0: 1}):
            self.hold_wrong(1, thing, [], None)
            self.hold_wrong(1, [], thing, None)
            self.hold_wrong(1, thing, thing, None)
            self.hold_wrong(1, [None], thing, None)
            self.hold_wrong(1, thing, [None], None)

    def test_things_that_are_no_deeds(self):
        deed = ("sum", 0, 0, 1, 0)
        for thing in (None, True, 0, 7, "sum", "", [], list(deed), {}, (), deed[:4], deed + (0,), (deed,), [deed], {0: deed}):
            self.hold_wrong(2, [thing], [], 0)
            self.hold_wrong(2, [deed, deed, thing, thing, deed], [(0, 0, 1)], 2)
            self.hold_wrong(2, [deed, thing], [None], 1)

    def test_each_part_of_a_deed(self):
        ahead = [("sum", 0, 0, 1, 3), ("less", 2, 1, 0, 0)]
        for deed in (("sum", 3, 2, 2, 0), ("less", 0, 0, 1, 7), ("sum", 1, 0, 1, 0)):
            self.hold_good(2, ahead + [deed], [])
            for word in ("", "Sum", "SUM", "sum ", "minus", "add", "+", 0, 1, None, True, ["sum"], ("sum",), {"sum": 1}):
                self.hold_wrong(2, ahead + [put(deed, 0, word)], [], 2)
            for place in (1, 3):
                for thing in NO_NUMBERS + (4, 5, -1, -2, 10 ** 60):
                    self.hold_wrong(2, ahead + [put(deed, place, thing)], [], 2)
            for place in (2, 4):
                for shift in NO_NUMBERS + (4001, -4001, 10 ** 60, -10 ** 60):
                    self.hold_wrong(2, ahead + [put(deed, place, shift)], [], 2)
                for shift in (4000, 3999):
                    self.hold_good(2, ahead + [put(deed, place, shift)], [])

    def test_things_that_are_not_there_yet(self):
        deed = ("sum", 0, 0, 0, 0)
        for ins in (1, 2, 12):
            for count in (0, 1, 3):
                own = ins + count
                for thing in (own, own + 1):
                    self.hold_wrong(ins, [deed] * count + [("sum", thing, 0, 0, 0), deed, deed], [], count)
                    self.hold_wrong(ins, [deed] * count + [("less", 0, 0, thing, 0), deed, deed], [], count)
                self.hold_good(ins, [deed] * count + [("sum", own - 1, 0, own - 1, 0)], [])

    def test_shifts_too_far_down(self):
        self.hold_wrong(1, [("sum", 0, -1, 0, 0)], [], 0)
        self.hold_wrong(1, [("sum", 0, 0, 0, -1)], [], 0)
        self.hold_wrong(1, [("sum", 0, -1, 0, -1)], [], 0)
        ahead = [("sum", 0, 5, 0, 3), ("less", 0, 4000, 0, 3999), ("less", 0, 1, 0, 1)]
        for thing, furthest in ((1, 3), (2, 3999), (3, 4000)):
            self.hold_good(1, ahead + [("sum", thing, -furthest, 0, 0)], [])
            self.hold_good(1, ahead + [("less", 0, 0, thing, -furthest)], [(thing, -furthest, -1)])
            self.hold_wrong(1, ahead + [("sum", thing, -furthest - 1, 0, 0)], [], 3)
            self.hold_wrong(1, ahead + [("less", 0, 0, thing, -furthest - 1)], [], 3)
            self.hold_wrong(1, ahead, [(0, 0, 1), (thing, -furthest - 1, 1)], 4)
        # Each number must stay whole, not one of them alone.
        self.hold_wrong(2, [("sum", 0, 3, 1, 0), ("sum", 2, -1, 0, 0)], [], 1)
        self.hold_wrong(2, [("sum", 0, 0, 1, 3), ("sum", 0, 0, 2, -1)], [], 1)
        self.hold_good(2, [("sum", 0, 3, 1, 1), ("sum", 2, -1, 0, 0)], [])
        self.hold_wrong(2, [("sum", 0, 3, 1, 1), ("sum", 2, -2, 0, 0)], [], 1)

    def test_a_shift_down_hangs_on_the_whole_number(self):
        # 3 and 5 are odd, but 3 + 5 is 8.
        deeds = [("sum", 0, 1, 0, 0), ("sum", 0, 2, 0, 0), ("sum", 1, 0, 2, 0)]
        self.hold_good(1, deeds + [("sum", 3, -3, 3, 0)], [(3, -3, 1)])
        self.hold_wrong(1, deeds + [("sum", 3, -4, 3, 0)], [], 3)
        self.hold_wrong(1, deeds, [(3, -4, 1)], 3)

    def test_things_that_are_no_outs(self):
        out = (0, 0, 1)
        for thing in (None, True, 0, 7, "out", "", [], list(out), [0, 0, 0], {}, (), out[:2], out + (0,), (0, 0), (0, 0, 0, 0)):
            self.hold_wrong(1, [], [thing], 0)
            self.hold_wrong(1, [("sum", 0, 0, 0, 0)] * 3, [out, (0, 0, 0), thing, thing], 5)

    def test_each_part_of_an_out(self):
        deeds = [("sum", 0, 0, 1, 3), ("less", 2, 1, 0, 0)]
        for out in ((3, 0, 1), (0, 5, -1), (2, 1, 1)):
            self.hold_good(2, deeds, [out])
            for thing in NO_NUMBERS + (4, 5, -1, 10 ** 60):
                self.hold_wrong(2, deeds, [out, put(out, 0, thing)], 3)
            for shift in NO_NUMBERS + (4001, -4001, -1, 10 ** 60):
                self.hold_wrong(2, deeds, [out, put(out, 1, shift)], 3)
            for sign in NO_NUMBERS + (2, -2, 0, 10 ** 60):
                self.hold_wrong(2, deeds, [out, put(out, 2, sign)], 3)

    def test_noughts_with_one_part_changed(self):
        deeds = [("sum", 0, 0, 1, 3)]
        for place in range(3):
            for thing in NO_NUMBERS:
                self.hold_wrong(2, deeds, [put((0, 0, 0), place, thing)], 1)
        for out in ((1, 0, 0), (2, 0, 0), (-1, 0, 0), (0, 1, 0), (0, -1, 0), (0, 4000, 0), (0, 0, 2), (0, 0, -2)):
            self.hold_wrong(2, deeds, [out], 1)
        self.hold_good(2, deeds, [(0, 0, 1), (0, 0, -1)])

    def test_thirteen_outs(self):
        for deeds in ([], [("sum", 0, 0, 0, 0)] * 4):
            for out in ((0, 0, 1), (0, 0, 0)):
                self.hold_good(1, deeds, [out] * 12)
                self.hold_wrong(1, deeds, [out] * 13, len(deeds) + 12)
                self.hold_wrong(1, deeds, [out] * 15, len(deeds) + 12)
                self.hold_wrong(1, deeds, [out] * 12 + [None], len(deeds) + 12)
                self.hold_wrong(1, deeds, [out] * 7 + [None] + [out] * 5, len(deeds) + 7)

    def test_the_first_wrong_one_is_told(self):
        good = ("sum", 0, 0, 0, 0)
        for first in range(4):
            deeds = [good] * first + [("sum", 0, -1, 0, 0), ("none", 0, 0, 0, 0), good, None]
            self.hold_wrong(1, deeds, [None] * 13, first)
        self.hold_wrong(0, [None], [None], None)

    def test_refused_as_any_refusal(self):
        with self.assertRaises(ShiftError):
            web_of(1, [], [None])

    def test_changed_behind_the_call(self):
        deeds, outs = [("sum", 0, 1, 0, 0)], [(1, 0, 1)]
        told = web_of(1, deeds, outs)
        deeds.append(None)
        outs[0] = None
        self.assertEqual(told, (1, [("sum", 0, 1, 0, 0)], [(1, 0, 1)]))
        told[1].append(None)
        self.assertEqual(deeds, [("sum", 0, 1, 0, 0), None])
        self.assertIs(is_web(told), False)

    def test_by_name(self):
        self.assertIs(is_web(thing=(1, [], [])), True)
        self.assertEqual(web_of(ins=1, deeds=[], outs=[]), (1, [], []))
        self.assertEqual(web_of(outs=[(1, 0, 1)], deeds=[], ins=2), (2, [], [(1, 0, 1)]))


class Numbers(unittest.TestCase):
    def hold(self, web):
        self.assertIs(is_web(web), True)
        kept = copy.deepcopy(web)
        told, ends = numbers(web), out_numbers(web)
        self.assertEqual(told, plain_rows(web))
        self.assertEqual(ends, plain_out_rows(web))
        self.assertEqual((type(told), type(ends)), (list, list))
        for row in told + ends:
            self.assertIs(type(row), tuple)
            self.assertEqual(len(row), web[0])
            self.assertTrue(all(type(number) is int for number in row))
        self.assertEqual(web, kept)

    def test_told_by_hand(self):
        web = (1, [("less", 0, 3, 0, 0), ("sum", 1, 1, 1, 0)], [(1, 0, 1), (2, 2, -1), (0, 0, 0)])
        self.assertEqual(numbers(web), [(1,), (7,), (21,)])
        self.assertEqual(out_numbers(web), [(7,), (-84,), (0,)])
        web = (2, [("sum", 0, 0, 1, 1), ("less", 1, 0, 2, 2), ("less", 2, 0, 2, 0)], [(3, 0, -1), (4, 0, 1), (1, 1, 1)])
        self.assertEqual(numbers(web), [(1, 0), (0, 1), (1, 2), (-4, -7), (0, 0)])
        self.assertEqual(out_numbers(web), [(4, 7), (0, 0), (0, 2)])

    def test_inputs(self):
        self.assertEqual(numbers((1, [], [])), [(1,)])
        self.assertEqual(numbers((3, [], [])), [(1, 0, 0), (0, 1, 0), (0, 0, 1)])
        self.assertEqual(out_numbers((3, [], [])), [])
        self.assertEqual(out_numbers((3, [], [(0, 0, 0), (0, 0, 1), (2, 3, -1)])), [(0, 0, 0), (1, 0, 0), (0, 0, -8)])

    def test_shifts_up_and_down(self):
        web = (2, [("sum", 0, 5, 1, 3), ("less", 2, -3, 2, -2), ("sum", 2, -1, 2, 1)], [(2, -3, -1), (3, 4, 1), (4, -2, 1)])
        self.assertEqual(numbers(web), [(1, 0), (0, 1), (32, 8), (-4, -1), (80, 20)])
        self.assertEqual(out_numbers(web), [(-4, -1), (-64, -16), (20, 5)])

    def test_the_furthest_shifts(self):
        web = (1, [("sum", 0, 4000, 0, 4000), ("less", 1, -4000, 1, 0)], [(1, -4000, -1), (2, 4000, 1)])
        self.hold(web)
        self.assertEqual(out_numbers(web)[0], (-2,))

    def test_webs_of_all_sizes(self):
        for web in GOOD:
            self.hold(web)
        for web in some_webs(2):
            self.hold(web)

    def test_a_chain_of_sixty_deeds(self):
        web = (1, [("sum", k, 1, k, 0) for k in range(60)], [(60, 0, 1), (60, 40, -1)])
        self.assertEqual(numbers(web), [(3 ** k,) for k in range(61)])
        self.assertEqual(out_numbers(web), [(3 ** 60,), (-(3 ** 60) * 2 ** 40,)])
        web = (1, [("less", k, 40, k, 0) for k in range(60)], [(60, 0, 1)])
        self.assertEqual(out_numbers(web), [((2 ** 40 - 1) ** 60,)])

    def test_told_lists_are_the_askers_own(self):
        web = (2, [("sum", 0, 0, 1, 1)], [(2, 0, 1)])
        first = numbers(web), out_numbers(web)
        numbers(web).clear()
        out_numbers(web)[0] = None
        self.assertEqual(first, ([(1, 0), (0, 1), (1, 2)], [(1, 2)]))
        first[0].append(1)
        first[1].append(1)
        self.assertEqual((numbers(web), out_numbers(web)), ([(1, 0), (0, 1), (1, 2)], [(1, 2)]))
        web[1].append(("less", 2, 0, 0, 0))
        self.assertEqual(numbers(web), [(1, 0), (0, 1), (1, 2), (0, 2)])

    def test_by_name(self):
        self.assertEqual(numbers(web=(1, [], [])), [(1,)])
        self.assertEqual(out_numbers(web=(1, [], [(0, 1, 1)])), [(2,)])


class Arrows(unittest.TestCase):
    def test_told_by_hand(self):
        web = (2, [("sum", 0, 3, 1, 0), ("less", 2, 1, 2, 0)], [(3, -1, -1), (0, 0, 0), (0, 4, 1), (0, 0, 0), (3, 0, 1)])
        self.assertEqual(arrows(web), [
            (0, 2, 3, 1), (1, 2, 0, 1), (2, 3, 1, 1), (2, 3, 0, -1), (3, 4, -1, -1), (0, 6, 4, 1), (3, 8, 0, 1),
        ])

    def test_without_deeds_or_outs(self):
        self.assertEqual(arrows((1, [], [])), [])
        self.assertEqual(arrows((5, [], [])), [])
        self.assertEqual(arrows((5, [], [(0, 0, 0), (0, 0, 0)])), [])
        self.assertEqual(arrows((5, [], [(0, 0, 0), (4, 2, -1)])), [(4, 6, 2, -1)])
        self.assertEqual(arrows((1, [("less", 0, 2, 0, 1)], [])), [(0, 1, 2, 1), (0, 1, 1, -1)])

    def test_webs_of_all_sizes(self):
        for web in some_webs(3):
            ins, deeds, outs = kept = copy.deepcopy(web)
            told = arrows(web)
            self.assertIs(type(told), list)
            self.assertTrue(all(type(arrow) is tuple for arrow in told))
            plain = []
            for k, (word, a, s, b, t) in enumerate(deeds):
                plain += [(a, ins + k, s, 1), (b, ins + k, t, 1 if word == "sum" else -1)]
            for k, out in enumerate(outs):
                if out != (0, 0, 0):
                    plain.append((out[0], ins + len(deeds) + k, out[1], out[2]))
            self.assertEqual(told, plain)
            self.assertEqual(web, kept)

    def test_a_told_list_is_the_askers_own(self):
        web = some_web(chance(4), 2, 5, 3)
        first = arrows(web)
        kept = list(first)
        arrows(web).clear()
        self.assertEqual(first, kept)
        first.clear()
        self.assertEqual(arrows(web), kept)

    def test_by_name(self):
        self.assertEqual(arrows(web=(1, [], [(0, 1, 1)])), [(0, 1, 1, 1)])


if __name__ == "__main__":
    unittest.main()
