"""Papers: promises 2, 3 (a paper that is let by shows that none has fewer), 21 and 24."""

import copy
import time
import unittest

from samples import ANYTHING, SIXTY, chance, plain_core, plain_fewest, plain_made, plain_reach
from shiftsums.errors import TooMany
from shiftsums.papers import shows

BEYOND = ((100, 0), (100, 3), (99, 4), (32, 4), (31, 5), (1, 5), (10 ** 60 - 1, 1), (1, 10 ** 60 - 1))


def all_levels(top, most):
    """A paper with all that can be had, level by level, written apart from the program."""
    levels = [sorted(plain_reach(top, deeds), key=sorted) for deeds in range(most)]
    return [[tuple(sorted(cores)) for cores in level] for level in levels]


def plain_shows(paper, asked, top, most):
    """Demand by demand, of what is a paper by its form."""
    needed = {plain_core(number) for number in asked} - {0, 1}
    if most == 0:
        return paper == [] and needed != set()
    if len(paper) != most or not any(1 in cores for cores in paper[0]):
        return False
    for level, following in zip(paper, paper[1:]):
        for cores in level:
            for odd in plain_made(cores, top):
                if not any({*cores, odd} <= set(other) for other in following):
                    return False
    for cores in paper[-1]:
        lacking = needed - set(cores)
        if not lacking or (len(lacking) == 1 and lacking <= set(plain_made(cores, top))):
            return False
    return True


class Shows(unittest.TestCase):
    def hold(self, paper, asked, top, most):
        kept = copy.deepcopy((paper, asked))
        told = shows(paper, asked, top, most)
        self.assertIs(told, plain_shows(paper, asked, top, most), (paper, asked, top, most))
        self.assertEqual((paper, asked), kept)
        return told

    def test_told_by_hand(self):
        for paper, asked, top, most, told in (
            ([[(1,)]], [11], 99, 1, True), ([[(1,)]], [-22, 0, 1], 99, 1, True), ([[(1,)]], [3], 99, 1, False),
            ([[(1,)]], [3, 5], 99, 1, True), ([[(1, 3)]], [3, 5], 99, 1, False), ([[(1, 3)]], [3, 15], 99, 1, False),
            ([[(1, 3)]], [43], 99, 1, True), ([[(1,)], [(1, 3)]], [5], 3, 2, True), ([[(1,)], [(1, 3)]], [3], 3, 2, False),
            ([[(1,)], [(1, 3), (1, 5)]], [9], 5, 2, True), ([[(1,)], [(1, 3)]], [9], 5, 2, False),
            ([[(1,)], [(1, 3, 5)]], [9], 5, 2, True), ([[(1,)], [(1, 3, 5, 7)]], [9], 7, 2, True),
        ):
            self.assertIs(self.hold(paper, asked, top, most), told, (paper, asked))

    def test_most_nought(self):
        for asked, told in (([3], True), ([0, 1, 6], True), ([101], True), ([], False), ([0], False), ([1, -8, 0], False)):
            for top in (1, 31, 99):
                self.assertIs(self.hold([], asked, top, 0), told)
            for paper in ([[]], [[(1,)]], [[], []], None, (), {}, "", 0, False):
                self.assertIs(shows(paper, asked, 99, 0), False)

    def test_one_in_no_set_of_the_first_level(self):
        for first in ([], [()], [(3,)], [(3,), (5, 7), ()], [(3, 5, 7, 9)]):
            self.assertIs(self.hold([first], [11, 13], 99, 1), False)
        self.assertIs(self.hold([[(3,), (1,)]], [11], 99, 1), True)
        self.assertIs(self.hold([[(), (1,)]], [11], 99, 1), True)
        # Only the first level must have 1; the others have it by being led on to.
        self.assertIs(self.hold([[(3,)], [(1, 3)]], [43], 3, 2), False)

    def test_nothing_is_wanted(self):
        for asked in ([], [0], [1, 2, -4, 0]):
            for top, most in ((1, 1), (9, 1), (9, 2), (31, 4), (99, 3)):
                self.assertIs(self.hold(all_levels(top, most), asked, top, most), False)
            self.assertIs(self.hold([[]], asked, 9, 1), False)
            self.assertIs(self.hold([[(1,)], []], asked, 9, 2), False)

    def test_a_set_that_is_not_led_on(self):
        paper = all_levels(15, 3)
        asked = [43, 45]
        self.assertIs(self.hold(paper, asked, 15, 3), True)
        # A set that has nothing to do with the others must be led on, too.
        for level, cores in ((0, (3,)), (1, (7, 11, 13)), (0, (1, 3, 5, 7, 9, 11, 13, 15)), (1, (1, 3, 5, 7, 9, 11, 13, 15))):
            more = copy.deepcopy(paper)
            more[level].append(cores)
            self.assertIs(self.hold(more, asked, 15, 3), False)
        # The empty set makes nothing; in the last level a set need not be led on.
        for level, cores in ((0, ()), (1, ()), (2, ()), (2, (3,)), (2, (7, 11, 13))):
            more = copy.deepcopy(paper)
            more[level].insert(0, cores)
            self.assertIs(self.hold(more, asked, 15, 3), True)

    def test_the_set_and_the_core_in_two_sets_are_not_enough(self):
        self.assertIs(self.hold([[(1, 3)], [(1, 5), (3, 5), (1, 3)]], [43, 45], 5, 2), False)
        self.assertIs(self.hold([[(1, 3)], [(1, 3, 5)]], [43, 45], 5, 2), True)
        self.assertIs(self.hold([[(1,)], [(3,), (5,), (1,)]], [43, 45], 5, 2), False)

    def test_each_set_left_out(self):
        for top, most, asked in ((15, 2, [43, 45]), (9, 3, [11]), (20, 3, [43, -45])):
            paper = all_levels(top, most)
            self.assertIs(self.hold(paper, asked, top, most), True)
            truths = set()
            for level in range(most):
                for place in range(len(paper[level])):
                    less = copy.deepcopy(paper)
                    less[level].pop(place)
                    truths.add(self.hold(less, asked, top, most))
            self.assertIn(False, truths)

    def test_each_core_left_out(self):
        for top, most, asked in ((15, 2, [43, 45]), (9, 3, [11]), (7, 3, [9])):
            paper = all_levels(top, most)
            for level in range(most):
                for place, cores in enumerate(paper[level]):
                    for odd in cores:
                        less = copy.deepcopy(paper)
                        less[level][place] = tuple(other for other in cores if other != odd)
                        self.hold(less, asked, top, most)

    def test_the_last_level_lacks_one_or_none_or_two(self):
        for asked, told in (
            ([3, 5], False), ([3, 5, 7], False), ([3, 7], False), ([3, 5, 87], True), ([87], True), ([43], False), ([7], False),
            ([3, 7, 9], True), ([7, 9], True), ([43, 53], True), ([0, 1, 3], False), ([101], True), ([3, 5, 43], False),
        ):
            self.assertIs(self.hold([[(1, 3, 5)]], asked, 99, 1), told, asked)
        # One set of the last level that finishes spoils the paper, wherever it stands.
        for last in ([(1, 3), (1,)], [(1,), (1, 3)], [(1,), (1, 3), (1,)]):
            self.assertIs(self.hold([last], [11], 99, 1), False)

    def test_another_number_of_levels(self):
        paper = all_levels(9, 2)
        self.assertIs(self.hold(paper, [99], 9, 2), True)
        for most in (0, 1, 3, 4):
            self.assertIs(shows(paper, [99], 9, most), False)
        self.assertIs(shows([], [99], 9, 1), False)
        self.assertIs(shows(all_levels(9, 5), [99], 9, 4), False)

    def test_truth_and_all_webs_agree(self):
        """Of the paper with all that can be had: it shows so just where there is no row."""
        for top, most in ((1, 1), (3, 2), (9, 2), (21, 3), (31, 4), (99, 1), (99, 2), (45, 3)):
            paper = all_levels(top, most)
            for asked in ([3], [5, 7], [11], [43], [45], [21, 3], [13, 11], [27, 29, 31], [33], [99], [3, 5, 7, 9], [101], [0], []):
                self.assertIs(self.hold(paper, asked, top, most), plain_fewest(asked, top, most) is None)

    def test_a_paper_that_is_let_by_is_right(self):
        """Papers spoilt by chance: where one shows so there is no row, whoever wrote it."""
        dice = chance(33)
        truths = []
        for _ in range(1500):
            top, most = dice.choice(((3, 1), (5, 2), (9, 2), (9, 3), (13, 2), (7, 4)))
            paper = all_levels(top, most)
            for _ in range(dice.randrange(4)):
                spoil(dice, paper, top)
            asked = [dice.randrange(-2 * top, 2 * top) for _ in range(dice.randrange(1, 4))]
            truths.append(self.hold(paper, asked, top, most))
            if truths[-1]:
                self.assertIsNone(plain_fewest(asked, top, most))
        self.assertGreater(truths.count(True), 100)
        self.assertGreater(truths.count(False), 100)

    def test_by_name(self):
        self.assertIs(shows(paper=[[(1,)]], numbers=[11], top=99, most=1), True)


def spoil(dice, paper, top):
    level = dice.choice(paper)
    odds = range(1, top + 1, 2)
    deed = dice.randrange(4)
    if deed == 0 and level:
        level.pop(dice.randrange(len(level)))
    elif deed == 1 and level:
        place = dice.randrange(len(level))
        level[place] = tuple(sorted({*level[place], dice.choice(odds)}))
    elif deed == 2 and level:
        place = dice.randrange(len(level))
        level[place] = tuple(odd for odd in level[place] if dice.random() < 0.7)
    else:
        level.append(tuple(sorted(dice.sample(odds, dice.randrange(min(4, len(odds) + 1))))))


class NoPapers(unittest.TestCase):
    def test_anything(self):
        for thing in ANYTHING + ([None], [[None]], [[[1]]], [(1,)], [[1]], [{}], [{(1,): True}], ["(1,)"], [["(1,)"]], [[{1: 1}]]):
            for most in (0, 1, 2, 3):
                for asked in ([43, 45], [], [3]):
                    if not (thing == [] and most == 0):
                        self.assertIs(shows(thing, asked, 99, most), False, thing)

    def test_kinds_of_levels_and_sets(self):
        good = [[(1,)], [(1, 3, 5, 7, 9)]]
        self.assertIs(shows(good, [43, 45], 9, 2), True)
        for wrong in (
            tuple(good), [(good[0][0],), good[1]], [good[0], (good[1][0],)], [[[1]], good[1]], [good[0], [[1, 3, 5, 7, 9]]],
            {0: good[0], 1: good[1]}, [{(1,): True}, good[1]], [good[0], {good[1][0]: True}], [{(1,)}, good[1]], [good[0], [{1, 3, 5, 7, 9}]],
            [good[0], [frozenset((1, 3, 5, 7, 9))]], [good[0], good[1], []], [[], good[0], good[1]], good[:1], good[1:], [None, good[1]],
            [good[0], None], [good[0], [(1, 3, 5, 7, 9), None]], [good[0], [(1, 3, 5, 7, 9), "1"]], ["", good[1]], [good[0], good[1][0]],
        ):
            self.assertIs(shows(wrong, [43, 45], 9, 2), False, wrong)

    def test_numbers_in_sets(self):
        for wrong in (
            (True,), (1, True), (1, 2), (2,), (1, 3, 4, 5), (0, 1), (0,), (-1, 1), (-1,), (-3, 1), (1, 11), (11,), (1, 101), (1, 10),
            (3, 1), (1, 5, 3), (1, 1), (1, 3, 3), (3, 3), (1, None), (1, "3"), (1, (3,)), (1, [3]), (1, {}), (1, 3.0), (1, False),
            (1, 10 ** 60 - 1), (1, 1 - 10 ** 60), ((),), ((1,),),
        ):
            # With 9 as top; behind a good set and ahead of it, in the first level and in the last one.
            for paper in ([[(1,), wrong]], [[wrong, (1,)]]):
                self.assertIs(shows(paper, [43, 45], 9, 1), False, wrong)
            for paper in ([[(1,)], [(1, 3, 5, 7, 9), wrong]], [[(1,)], [wrong, (1, 3, 5, 7, 9)]]):
                self.assertIs(shows(paper, [43, 45], 9, 2), False, wrong)

    def test_just_top_and_above(self):
        self.assertIs(shows([[(1,), (9,)]], [43, 45], 9, 1), True)
        self.assertIs(shows([[(1,), (9,)]], [43, 45], 10, 1), True)
        self.assertIs(shows([[(1,), (9,)]], [43, 45], 8, 1), False)
        self.assertIs(shows([[(1,), (99,)]], [43, 45], 99, 1), True)
        self.assertIs(shows([[(1,), (99,)]], [43, 45], 98, 1), False)


class Bounds(unittest.TestCase):
    def test_answered(self):
        self.assertIs(shows(all_levels(99, 3), [83, 89, 91], 99, 3), True)
        self.assertIs(shows(all_levels(31, 4), [11, 13, 19, 23, 25], 31, 4), True)
        self.assertIs(shows([], [3], 99, 0), True)

    def test_refused_ahead_of_all_else(self):
        for top, most in BEYOND:
            for paper in ([], [[(1,)]], all_levels(31, 4), None, "paper", 7, [[None]]):
                for asked in ([3], [], [0, 1]):
                    with self.assertRaises(TooMany):
                        shows(paper, asked, top, most)

    def test_two_thousand_sets(self):
        dice = chance(34)
        odds = range(1, 100, 2)
        broad = [tuple(sorted(dice.sample(odds, dice.randrange(30, 50)))) for _ in range(999)]
        start = time.perf_counter()
        paper = [[(1,)] + broad, [tuple(odds)] + broad]
        self.assertIs(shows(paper, [SIXTY[1]], 99, 2), True)
        self.assertIs(shows([paper[0], broad + [(1,)]], [SIXTY[1]], 99, 2), False)
        self.assertIs(shows([paper[0] + paper[1]], [SIXTY[1]], 99, 1), True)
        self.assertIs(shows([[(1,)] * 2000], [11], 99, 1), True)
        self.assertIs(shows([[(1,)] * 1000, [()] * 1000], [11], 99, 2), False)
        self.assertLess(time.perf_counter() - start, 60)


if __name__ == "__main__":
    unittest.main()
