"""The whole: promise 3 over all makers, what was told handed in again (2), and the interface's names."""

import copy
import importlib
import inspect
import unittest

from samples import SIXTY, chance, plain_core, plain_out_rows, plain_rows, plain_used, plain_value, shifts_of, some_web
from shiftsums.errors import Down, NoJoin, TooMany
from shiftsums.fewest import fewest
from shiftsums.joins import behind, beside, both
from shiftsums.made import costs, is_within
from shiftsums.papers import shows
from shiftsums.rows import by_signs, deep, least_depth
from shiftsums.runs import depth, depths, layers, run, run_outs
from shiftsums.shared import shared
from shiftsums.signs import least, signs, value_of
from shiftsums.terms import terms, ways
from shiftsums.texts import read, shown
from shiftsums.tidy import bare, is_bare, pruned, used
from shiftsums.turned import turned
from shiftsums.webs import arrows, is_web, numbers, out_numbers, web_of
from shiftsums.widths import fits, outs_in, range_in, run_in, sure, width_for, wrapped

# The interface, module by module: each function and the names of what is handed in.
INTERFACE = {
    "numbers": {"is_whole": "thing", "core": "number", "shifted": "number shift"},
    "signs": {"signs": "number", "value_of": "digits", "least": "number"},
    "writings": {"how_many": "number places", "writings": "number places"},
    "webs": {"is_web": "thing", "web_of": "ins deeds outs", "numbers": "web", "out_numbers": "web", "arrows": "web"},
    "runs": {"run": "web values", "run_outs": "web values", "depths": "web", "depth": "web", "layers": "web"},
    "terms": {"ways": "web", "terms": "web k"},
    "rows": {"by_signs": "numbers", "least_depth": "numbers", "deep": "numbers"},
    "shared": {"shared": "numbers"},
    "tidy": {"used": "web", "pruned": "web", "bare": "web", "is_bare": "web"},
    "made": {"made": "cores top", "wanted": "numbers", "costs": "top most", "is_within": "web top"},
    "papers": {"shows": "paper numbers top most"},
    "fewest": {"fewest": "numbers top most"},
    "joins": {"behind": "one other", "beside": "one other", "both": "one other"},
    "turned": {"turned": "web"},
    "widths": {
        "wrapped": "number width", "run_in": "web width values", "outs_in": "web width values", "sure": "web width",
        "fits": "web width ranges", "width_for": "web ranges", "range_in": "web width",
    },
    "texts": {"shown": "web", "read": "text"},
}


def told_webs():
    """Webs by each maker, of one input and of several, and then what each maker makes of these again."""
    dice = chance(95)
    pair = some_web(dice, 2, 7, 3, 2)
    first = [
        by_signs([45, -7, 0]), by_signs([SIXTY[1]]), deep([171, 1]), deep([-SIXTY[2], 3]), shared([11, 45, 90]), shared([999999999989]),
        fewest([43, -5], 99, 3)[1], fewest([43, 69], 69, 3)[1], read("in 3\n0 + 1<<2\n3 - 2\nout 4\nout -3<<1\nout none"), web_of(*pair),
    ]
    return first + list(made_again(first))


def made_again(webs):
    for web in webs:
        yield pruned(web)
        yield bare(web)
        yield read(shown(web))
        for other in webs[::3]:
            for join in (behind, beside, both):
                told = answered(join, web, other)
                if told is not None:
                    yield told
        told = answered(turned, web)
        if told is not None:
            yield told


def answered(asked, *handed):
    try:
        return asked(*handed)
    except (Down, NoJoin):
        return None


class Whole(unittest.TestCase):
    def hold(self, web):
        """What all the modules tell of a web, held against its numbers by fractions."""
        kept = copy.deepcopy(web)
        rows, outs = plain_rows(web), plain_out_rows(web)
        self.assertIs(is_web(web), True)
        self.assertEqual(web_of(*web), web)
        self.assertEqual((numbers(web), out_numbers(web)), (rows, outs))
        values = [SIXTY[1] - 77 * place if place % 2 else -5 for place in range(web[0])]
        self.assertEqual(run(web, values), [plain_value(row, values) for row in rows])
        self.assertEqual(run_outs(web, values), [plain_value(row, values) for row in outs])
        self.hold_depths(web)
        self.hold_terms(web, outs)
        self.hold_widths(web, values, rows + outs)
        self.hold_tidy(web, outs)
        self.assertEqual(read(shown(web)), web)
        self.assertEqual(len(arrows(web)), 2 * len(web[1]) + sum(out[2] != 0 for out in web[2]))
        if web[0] == 1:
            top = max(plain_core(int(row[0])) for row in rows)
            self.assertIs(is_within(web, top), True)
        self.hold_turned(web, outs)
        self.assertEqual(web, kept)

    def hold_depths(self, web):
        told = depths(web)
        self.assertEqual(sorted(sum(layers(web), [])), list(range(len(told))))
        self.assertEqual(depth(web), max([told[thing] for thing, shift, sign in web[2] if sign], default=0))
        for row, its in zip(numbers(web), told, strict=True):
            self.assertLessEqual(sum(least(number) for number in row), 2 ** its)

    def hold_terms(self, web, outs):
        for k, row in enumerate(outs):
            if ways(web)[web[2][k][0]] > 500 and web[2][k][2] != 0:
                with self.assertRaises(TooMany):
                    terms(web, k)
                continue
            sums = [0] * web[0]
            for thing, shift, sign in terms(web, k):
                sums[thing] += sign * 2 ** (shift + 4000)
            self.assertEqual(sums, [number * 2 ** 4000 for number in row])

    def hold_widths(self, web, values, rows):
        plain = run(web, values)
        for width in (1, 8, 250, 3000):
            for there, value, bits in zip(run_in(web, width, values), plain, sure(web, width), strict=True):
                self.assertEqual((there - value) % 2 ** bits, 0)
        ranges = [(min(value, -value), max(value, -value)) for value in values]
        width = width_for(web, ranges)
        self.assertIs(fits(web, width, ranges), True)
        self.assertEqual(run_in(web, width, values), plain)
        self.assertEqual(outs_in(web, width, values), run_outs(web, values))
        if web[0] == 1:
            low, high = range_in(web, 300)
            for x in (low - 1, low, high, high + 1):
                inside = all(wrapped(int(row[0]) * x, 300) == row[0] * x for row in rows)
                self.assertEqual(inside, low <= x <= high)

    def hold_tidy(self, web, outs):
        self.assertEqual(used(web), plain_used(web))
        self.assertEqual(plain_out_rows(pruned(web)), outs)
        told = bare(web)
        self.assertEqual(plain_out_rows(told), outs)
        self.assertIs(is_bare(told), True)
        self.assertLessEqual(len(told[1]), len(pruned(web)[1]))
        self.assertLessEqual(len(pruned(web)[1]), len(web[1]))

    def hold_turned(self, web, outs):
        if min(shifts_of(web), default=0) < 0:
            with self.assertRaises(Down):
                turned(web)
        elif not web[2]:
            with self.assertRaises(NoJoin):
                turned(web)
        else:
            told = turned(web)
            self.assertEqual(plain_out_rows(told), [tuple(row[i] for row in outs) for i in range(web[0])])

    def test_what_each_maker_tells_is_taken_by_all(self):
        webs = told_webs()
        self.assertGreater(len(webs), 60)
        for web in webs:
            self.hold(web)

    def test_what_was_told_twice_over(self):
        for web in list(made_again(told_webs()[::7])):
            self.assertIs(is_web(web), True)
            self.assertEqual(out_numbers(web), plain_out_rows(web))
            self.assertEqual(read(shown(web)), web)

    def test_never_more_deeds_than_for_each_one_by_signs(self):
        for asked in ([43, 45, 11], [7, 7, 7], [0, 1, 85, 171], [999999999989, -12345, 3]):
            alone = sum(len(by_signs([number])[1]) for number in asked)
            for maker in (by_signs, deep, shared):
                self.assertLessEqual(len(maker(asked)[1]), alone)

    def test_told_lists_and_numbers_handed_in_again(self):
        row = by_signs([SIXTY[1]])
        for told in numbers(row)[:6]:
            self.assertEqual(out_numbers(by_signs(list(told))), [told])
        self.assertEqual(value_of(signs(SIXTY[1])), SIXTY[1])
        odds = [odd for odd, count in costs(99, 3) if count == 3]
        self.assertEqual([fewest([odd], 99, 2)[0] for odd in odds], ["none"] * len(odds))
        for odd in odds:
            self.assertIs(shows(fewest([odd], 99, 2)[1], [odd], 99, 2), True)
            self.assertEqual(least_depth([odd]), depth(deep([odd])))
        big = width_for(row, [(-SIXTY[1], SIXTY[1])])
        self.assertEqual(run_in(row, big, [SIXTY[1]]), run(row, [SIXTY[1]]))
        self.assertEqual(width_for(row, [range_in(row, 3000)]), 3000)


class Interface(unittest.TestCase):
    def test_names_and_what_is_handed_in(self):
        for module, functions in INTERFACE.items():
            there = importlib.import_module(f"shiftsums.{module}")
            for name, handed in functions.items():
                asked = getattr(there, name)
                self.assertEqual(list(inspect.signature(asked).parameters), handed.split(" "), name)

    def test_the_desk(self):
        desk = importlib.import_module("shiftsums.desk").Desk
        self.assertEqual(list(inspect.signature(desk).parameters), [])
        self.assertEqual(list(inspect.signature(desk().say).parameters), ["row"])


if __name__ == "__main__":
    unittest.main()
