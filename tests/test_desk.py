"""The desk: promises 2 and 34, and what it answers by the others."""

import itertools
import unittest

from samples import ANYTHING, SIXTY, chance
from shiftsums.desk import Desk
from shiftsums.errors import Down, NoJoin, NoName, NoRow, NoWeb, NoWord, ShiftError, TooMany
from shiftsums.fewest import fewest
from shiftsums.joins import behind, beside, both
from shiftsums.rows import by_signs, deep
from shiftsums.runs import depth, run_outs
from shiftsums.shared import shared
from shiftsums.signs import signs
from shiftsums.texts import read, shown
from shiftsums.tidy import bare, is_bare, pruned
from shiftsums.turned import turned
from shiftsums.webs import is_web, out_numbers
from shiftsums.widths import outs_in, range_in

LONG = "9" * 60
NO_NAMES = ("", "A", "aB", "abcdefghi", "a1", "1", "a-b", "a_b", "-", "+", "a.", "a\n", "\u00e4", "\u00aa")
NO_NUMBERS = (
    "", "x", "+1", "-0", "00", "01", "-01", "1.0", "--1", "-", "1-", "1e3", "1_0", "0x1", "1,2", "9" * 61, "-" + "9" * 61, "none", "1\n", "\u0661", "\u00b2",
)
NO_PARTS = (
    "", "x", "-0", "+0", "00", "01", "0<<0", "0>>0", "0<<01", "0<<", "<<1", "0<1", "0<<1<<1", "0<<1>>1", "0<<12345", "0>>00001", "0<<-1", "none", "1.0", "0\n", "\u0660",
)
# For each kind of word those that are none, and the class that each one is refused with.
BENT = {
    "NEW": (NoName, NO_NAMES),
    "NAME": (NoName, NO_NAMES + ("nobody", "z")),
    "INS": (NoWord, NO_NUMBERS + ("0", "13", "-1", LONG)),
    "WIDTH": (NoWord, NO_NUMBERS + ("0", "3001", "-1", LONG)),
    "TOP": (NoWord, NO_NUMBERS + ("0", "1000", "-1", LONG)),
    "MOST": (NoWord, NO_NUMBERS + ("-1", "1000", LONG)),
    "NUMBER": (NoWord, NO_NUMBERS),
    "SHORT": (NoWord, NO_NUMBERS + ("1000000000000", "-1000000000000", LONG)),
    "PART": (NoWord, NO_PARTS),
    "SIGN": (NoWord, ("", "*", "++", "+-", "/", "sum", "less", "0", "=", "\u2212")),
    "OUT": (NoWord, tuple(word for word in NO_PARTS if word not in ("-0", "none")) + ("--0", "-none", "None", "-", "-00", "-0<<0", "none<<1")),
}
# A good row of each sort, word by word, with the kinds of the words behind the first.
ROWS = (
    ("web new 3", "NEW INS"),
    ("deed pair 0<<2 + 1", "NAME PART SIGN PART"),
    ("deed pair 2>>1 - 0", "NAME PART SIGN PART"),
    ("out pair 2<<3", "NAME OUT"),
    ("out pair -2", "NAME OUT"),
    ("out pair none", "NAME OUT"),
    ("show pair", "NAME"),
    ("numbers pair", "NAME"),
    ("run pair 5 -7", "NAME NUMBER NUMBER"),
    ("run seven 5", "NAME NUMBER"),
    ("within pair 8 100 -7", "NAME WIDTH NUMBER NUMBER"),
    ("range seven 16", "NAME WIDTH"),
    ("depth pair", "NAME"),
    ("deeds pair", "NAME"),
    ("signs -45", "NUMBER"),
    ("row new 7", "NEW NUMBER"),
    ("row new 7 0 -5 3 7 1", "NEW NUMBER NUMBER NUMBER NUMBER NUMBER NUMBER"),
    ("deep new 7 171", "NEW NUMBER NUMBER"),
    ("shared new 45 -999999999999 11", "NEW SHORT SHORT SHORT"),
    ("fewest new 99 3 43 0", "NEW TOP MOST NUMBER NUMBER"),
    ("fewest new 9 1 43", "NEW TOP MOST NUMBER"),
    ("prune pair", "NAME"),
    ("bare pair", "NAME"),
    ("turn seven", "NAME"),
    ("behind new seven seven", "NEW NAME NAME"),
    ("beside new pair seven", "NEW NAME NAME"),
    ("both new seven seven", "NEW NAME NAME"),
)
FIRSTS = sorted({row.split(" ")[0] for row, kinds in ROWS})
NAMES = ("pair", "seven", "new", "nobody", "z", "a", "down", "empty")


def told_desk():
    """A desk with a web of two inputs, a row, a web that goes down and an empty one."""
    desk = Desk()
    for row in (
        "web pair 2", "deed pair 0<<1 + 1<<2", "deed pair 0 - 2>>1", "out pair 3", "out pair -2<<1", "out pair none",
        "row seven 7", "web down 1", "deed down 0<<1 + 0<<1", "out down 1", "out down 1>>2", "web empty 1",
    ):
        desk.say(row)
    return desk


def all_webs(desk):
    told = {}
    for name in NAMES:
        try:
            told[name] = desk.say(f"show {name}")
        except NoName:
            told[name] = None
    return told


class Desks(unittest.TestCase):
    def hold_refused(self, desk, row, kind, at=None):
        kept = all_webs(desk)
        with self.assertRaises(ShiftError) as caught:
            desk.say(row)
        self.assertIs(type(caught.exception), kind, repr(row))
        if at is not None:
            self.assertEqual(caught.exception.at, at, row)
        self.assertEqual(all_webs(desk), kept, row)


class Answers(Desks):
    def hold(self, desk, *pairs):
        for row, told in pairs:
            answer = desk.say(row)
            self.assertIs(type(answer), str)
            self.assertEqual(answer, told, row)

    def test_web(self):
        desk = Desk()
        for ins in range(1, 13):
            self.hold(desk, (f"web a {ins}", "ok"), ("show a", f"in {ins}"), ("deeds a", "0"), ("depth a", "0"), ("numbers a", "-"))
        self.hold(desk, ("web abcdefgh 2", "ok"), ("show abcdefgh", "in 2"))

    def test_deed_and_out(self):
        desk = Desk()
        self.hold(
            desk, ("web a 2", "ok"), ("deed a 0<<3 + 1", "2"), ("deed a 2 - 0", "3"), ("out a 3", "0"), ("out a -2<<4", "1"), ("out a none", "2"),
            ("show a", "in 2\n0<<3 + 1\n2 - 0\nout 3\nout -2<<4\nout none"), ("deeds a", "2"), ("depth a", "2"),
            # A deed more where outs stand already.
            ("deed a 3<<1 - 3", "4"), ("out a -4", "3"), ("show a", "in 2\n0<<3 + 1\n2 - 0\n3<<1 - 3\nout 3\nout -2<<4\nout none\nout -4"),
            ("out a -0", "4"), ("out a 2", "5"), ("numbers a", "7,1 -128,-16 0,0 -7,-1 -1,0 8,1"), ("depth a", "3"),
        )
        self.hold(desk, ("web b 1", "ok"), ("deed b 0<<4000 + 0<<4000", "1"), ("out b 1>>4000", "0"), ("numbers b", "2"))

    def test_numbers_and_run(self):
        desk = told_desk()
        self.hold(desk, ("show pair", "in 2\n0<<1 + 1<<2\n0 - 2>>1\nout 3\nout -2<<1\nout none"))
        self.hold(
            desk, ("numbers pair", "0,-2 -4,-8 0,0"), ("numbers seven", "7"), ("numbers empty", "-"), ("numbers down", "4 1"),
            ("run pair 5 -7", "14 36 0"), ("run pair 0 0", "0 0 0"), ("run seven -3", "-21"), ("run empty 5", "-"), (f"run seven {LONG}", str(7 * int(LONG))),
            (f"run pair -{LONG} {LONG}", f"{-2 * int(LONG)} {-4 * int(LONG)} 0"),
        )

    def test_within_and_range(self):
        desk = told_desk()
        self.hold(
            desk, ("within seven 8 18", "126"), ("within seven 8 19", "-123"), ("within seven 1 1", "-1"), ("within seven 3000 19", "133"),
            ("within empty 8 300", "-"), ("within pair 8 100 -7", outs_row(desk, "pair", 8, [100, -7])), (f"within seven 8 {LONG}", outs_row(desk, "seven", 8, [int(LONG)])),
            ("within down 4 5", "4 1"), ("range seven 8", "-18 18"), ("range seven 1", "0 0"), ("range empty 8", "-128 127"), ("range empty 1", "-1 0"),
            ("range empty 3000", f"{-2 ** 2999} {2 ** 2999 - 1}"),
        )

    def test_signs(self):
        desk = Desk()
        self.hold(desk, ("signs 0", "0"), ("signs 1", "+"), ("signs -1", "-"), ("signs 7", "+00-"), ("signs -7", "-00+"), ("signs 6", "+0-0"), ("signs 11", "+0-0-"))
        for number in list(range(-70, 71)) + [int(LONG), -int(LONG), SIXTY[2]]:
            told = desk.say(f"signs {number}")
            digits = [{"+": 1, "-": -1, "0": 0}[sign] for sign in reversed(told)]
            self.assertEqual(digits if number else [], signs(number))

    def test_row_deep_shared_fewest(self):
        desk = Desk()
        for word, maker in (("row", by_signs), ("deep", deep), ("shared", shared)):
            for asked in ([7], [0], [-45, 0, 171, 45, 1, -2], [999999999999, -999999999999], [11, 11]):
                self.hold(desk, (f"{word} a " + " ".join(map(str, asked)), "ok"), ("numbers a", " ".join(map(str, asked))), ("show a", shown(maker(asked))))
        self.hold(desk, (f"row a {LONG} -{LONG}", "ok"), ("numbers a", f"{LONG} -{LONG}"), (f"deep b -{LONG}", "ok"), ("numbers b", f"-{LONG}"))
        self.hold(desk, ("deep c 171", "ok"), ("depth c", "3"), ("row c 171", "ok"), ("depth c", "4"))
        self.hold(
            desk, ("fewest c 99 3 43 0 -86", "web"), ("numbers c", "43 0 -86"), ("deeds c", "3"), ("fewest d 31 4 5 7 9 11 1 2", "web"), ("deeds d", "4"),
            ("fewest e 1 0 8", "web"), ("show e", "in 1\nout 0<<3"),
        )
        self.assertEqual(desk.say("show c"), shown(fewest([43, 0, -86], 99, 3)[1]))

    def test_fewest_answered_none(self):
        desk = told_desk()
        kept = all_webs(desk)
        self.hold(desk, ("fewest seven 99 1 43", "none"), ("fewest new 9 3 43", "none"), ("fewest pair 99 0 3", "none"), (f"fewest pair 99 3 {LONG}", "none"))
        self.assertEqual(all_webs(desk), kept)
        self.hold_refused(desk, "show new", NoName)

    def test_prune_bare_turn(self):
        desk = Desk()
        self.hold(
            desk, ("web a 2", "ok"), ("deed a 0 + 1", "2"), ("deed a 0<<1 - 1", "3"), ("deed a 0<<2 - 1<<1", "4"), ("out a 4", "0"), ("out a 3", "1"),
            ("prune a", "ok"), ("show a", "in 2\n0<<1 - 1\n0<<2 - 1<<1\nout 3\nout 2"), ("bare a", "ok"), ("deeds a", "1"), ("numbers a", "4,-2 2,-1"),
            ("turn a", "ok"), ("numbers a", "4,2 -2,-1"), ("turn a", "ok"), ("numbers a", "4,-2 2,-1"),
        )
        self.assertIs(is_bare(read(desk.say("show a"))), True)

    def test_joins(self):
        desk = told_desk()
        self.hold(
            desk, ("row five 5 3", "ok"), ("behind new five pair", "ok"), ("numbers new", "-6 -44 0"), ("beside new seven pair", "ok"),
            ("numbers new", "7,0,0 0,0,-2 0,-4,-8 0,0,0"), ("both new seven five", "ok"), ("numbers new", "7 5 3"), ("behind new seven seven", "ok"), ("numbers new", "49"),
            # In the place of one of the two that it is joined of, or of both.
            ("behind seven seven five", "ok"), ("numbers seven", "35 21"), ("numbers five", "5 3"), ("both five seven five", "ok"), ("numbers five", "35 21 5 3"),
            ("both new new new", "ok"), ("numbers new", "49 49"), ("beside new new new", "ok"), ("numbers new", "49,0 49,0 0,49 0,49"),
        )

    def test_a_new_web_in_the_place_of_one_that_stands(self):
        desk = told_desk()
        for row in ("web pair 5", "row pair 3", "deep pair 3", "shared pair 3", "fewest pair 9 1 3", "behind pair seven seven", "beside pair seven seven", "both pair seven seven"):
            self.assertIn(desk.say(row), ("ok", "web"))
        self.hold(desk, ("numbers pair", "7 7"), ("numbers seven", "7"))
        # What was joined of a web stays as it is when the web changes.
        self.hold(desk, ("out seven none", "1"), ("numbers pair", "7 7"), ("web seven 1", "ok"), ("numbers pair", "7 7"))

    def test_two_desks(self):
        one, other = Desk(), Desk()
        one.say("web a 1")
        self.hold_refused(other, "show a", NoName)
        other.say("web a 2")
        one.say("out a 0")
        self.hold(one, ("show a", "in 1\nout 0"))
        self.hold(other, ("show a", "in 2"))

    def test_names_like_rows(self):
        desk = Desk()
        for word in FIRSTS:
            self.hold(desk, (f"web {word} 1", "ok"), (f"show {word}", "in 1"))
        self.hold(desk, ("web none 1", "ok"), ("out none none", "0"), ("show none", "in 1\nout none"))

    def test_by_name(self):
        self.assertEqual(Desk().say(row="web a 1"), "ok")


def outs_row(desk, name, width, values):
    return " ".join(str(value) for value in outs_in(read(desk.say(f"show {name}")), width, values))


class Refused(Desks):
    def test_all_rows_are_listed_here(self):
        self.assertEqual(len(FIRSTS), 21)
        for row, kinds in ROWS:
            self.assertIs(type(told_desk().say(row)), str)
            self.assertEqual(len(row.split(" ")), 1 + len(kinds.split(" ")))

    def test_each_word_bent(self):
        desk = told_desk()
        for row, kinds in ROWS:
            words = row.split(" ")
            for place, kind in enumerate(kinds.split(" "), start=1):
                error, bents = BENT[kind]
                for bent in bents:
                    self.hold_refused(desk, " ".join(words[:place] + [bent] + words[place + 1:]), error)

    def test_two_words_bent_the_first_one_counts(self):
        desk = told_desk()
        for row, kinds in ROWS:
            words, kinds = row.split(" "), kinds.split(" ")
            for one, other in itertools.combinations(range(len(kinds)), 2):
                for first, second in itertools.product(BENT[kinds[one]][1][:4], BENT[kinds[other]][1][-3:]):
                    bent = list(words)
                    bent[one + 1], bent[other + 1] = first, second
                    self.hold_refused(desk, " ".join(bent), BENT[kinds[one]][0])

    def test_a_word_more_or_less(self):
        desk = told_desk()
        for row, kinds in ROWS:
            words = row.split(" ")
            if words[0] not in ("run", "within", "row", "deep", "shared", "fewest"):
                for more in ("0", "seven", "x", ""):
                    for place in range(1, len(words) + 1):
                        self.hold_refused(desk, " ".join(words[:place] + [more] + words[place:]), NoRow)
                for place in range(1, len(words)):
                    self.hold_refused(desk, " ".join(words[:place] + words[place + 1:]), NoRow)
                    # The number of words counts ahead of what they are.
                    self.hold_refused(desk, " ".join(words[:place] + ["?", "?"] + words[place + 1:]), NoRow)
            self.hold_refused(desk, words[0], NoRow)
            if words[0] not in ("run", "within"):
                self.hold_refused(desk, words[0] + " ?" * 200, NoRow)

    def test_rows_with_several_numbers(self):
        desk = told_desk()
        for row in (
            "run", "run seven", "run nobody", "run ?", "within", "within seven", "within seven 8", "within nobody 0", "row", "row new", "row ?", "deep new", "shared new",
            "fewest new", "fewest new 99", "fewest new 99 3", "fewest ? ? ?", "row new" + " 1" * 7, "deep new" + " 1" * 7, "shared new" + " 1" * 7, "fewest new 99 3" + " 1" * 7,
            "row ?" + " ?" * 7, "fewest ? ? ?" + " ?" * 7, "signs", "signs 1 2", "signs ? ?",
        ):
            self.hold_refused(desk, row, NoRow)
        for row in ("row new" + " 1" * 6, "deep new" + " 3" * 6, "shared new" + " 3" * 6, "run seven 1"):
            self.assertIs(type(desk.say(row)), str)
        self.assertEqual(desk.say("fewest new 99 3" + " 3" * 6), "web")

    def test_no_rows(self):
        desk = told_desk()
        for thing in ANYTHING + (b"show pair", ["show", "pair"], ("show", "pair")):
            self.hold_refused(desk, thing, NoRow)
        for row in (
            "", " ", "  ", "\n", "x", "Show pair", "SHOW pair", " show pair", "show pair ", "show  pair", "show\npair", "show\tpair", "showpair", "pair show", "pair", "show",
            "shows pair", "sho pair", "in 2", "0 + 0", "out", "read pair", "help", "is_web pair", "fits pair 8", "sure pair 8", "less pair",
        ):
            self.hold_refused(desk, row, NoRow)
        for row in (" " + row for row, kinds in ROWS):
            self.hold_refused(desk, row, NoRow)
        for first in FIRSTS:
            for row in (first.upper() + " pair", first + "x pair", first[:-1] + " pair"):
                if row.split(" ")[0] not in FIRSTS:
                    self.hold_refused(desk, row, NoRow)

    def test_blanks(self):
        desk = told_desk()
        # A word without signs is a word: where so many may stand it is no number.
        for row in ("run pair 5  -7", "run pair 5 -7 ", "run seven ", "within pair 8 5  -7", "within pair 8 5 ", "row new  7", "row new 7 ", "row new ", "fewest new 99 3 43 ", "signs "):
            self.hold_refused(desk, row, NoWord)
        for row in ("run  5", "row  7", "show ", "prune ", "within  8 5", "both   "):
            self.hold_refused(desk, row, NoName)
        for row in ("show pair ", "signs 5 ", "web new 3 ", "deed pair 0 + 1 ", "deed pair 0 +  1", "both new seven seven ", "row new 1 2 3 4 5 6 ", "both  new seven seven"):
            self.hold_refused(desk, row, NoRow)

    def test_names(self):
        desk = told_desk()
        for row in ("both new nobody seven", "both new seven nobody", "both ? seven seven", "behind nobody seven nobody", "beside Z nobody nobody"):
            self.hold_refused(desk, row, NoName)
        # The name ahead of the words, and both ahead of what the stages refuse.
        self.hold_refused(desk, "web ? 99", NoName)
        self.hold_refused(desk, "web new 99", NoWord)
        self.hold_refused(desk, "deed nobody x * x", NoName)
        self.hold_refused(desk, "fewest ? 0 0 x", NoName)
        self.hold_refused(desk, "fewest new 100 3 x", NoWord)
        self.hold_refused(desk, "run seven 1 2 x", NoWord)
        self.hold_refused(desk, "deed pair 99 + x", NoWord)

    def test_as_the_stages_refuse(self):
        desk = told_desk()
        for row, at in (
            ("deed pair 4 + 0", 2), ("deed pair 0 - 4", 2), ("deed pair 0>>1 + 0", 2), ("deed pair 0 + 2>>2", 2), ("deed pair 0<<4001 + 0", 2), ("deed pair 0 + 0>>9999", 2),
            ("out pair 4", 5), ("out pair -99999", 5), ("out pair 0>>1", 5), ("out pair -0<<4001", 5), ("out empty 1", 0), ("deed empty 1 + 0", 0), ("out down 1>>3", 3),
            ("deed pair " + "9" * 200 + " + 0", 2), ("out pair " + "9" * 200, 5),
        ):
            self.hold_refused(desk, row, NoWeb, at)
        for row in (
            "run pair 1", "run pair 1 2 3", "run seven 1 2", "within pair 8 1", "within seven 8 1 2", "range pair 8", "turn empty", "behind new pair pair", "behind new empty seven",
            "behind new seven pair", "both new seven pair", "both pair pair seven",
        ):
            self.hold_refused(desk, row, NoJoin)
        self.hold_refused(desk, "turn pair", Down, 1)
        self.hold_refused(desk, "turn down", Down, 2)
        for row in ("fewest new 100 3 3", "fewest new 999 999 3", "fewest seven 99 4 3", "fewest new 32 4 1", "fewest new 1 5 1", "fewest pair 100 0 0"):
            self.hold_refused(desk, row, TooMany)

    def test_twelve_outs_and_inputs(self):
        desk = told_desk()
        for place in range(12):
            self.assertEqual(desk.say(f"out empty {'none' if place % 2 else '-0'}"), str(place))
        self.hold_refused(desk, "out empty 0", NoWeb, 12)
        self.hold_refused(desk, "both new empty seven", NoJoin)
        self.hold_refused(desk, "beside new empty seven", NoJoin)
        desk.say("web a 12")
        self.hold_refused(desk, "beside new a seven", NoJoin)
        self.assertEqual(desk.say("deed a 11 + 0"), "12")


class Sessions(unittest.TestCase):
    """Rows by chance, held against the stages."""

    def answer(self, webs, dice):
        name, one, other = [dice.choice(sorted(webs)) for _ in range(3)]
        new = dice.choice(("a", "b", "c", "longname"))
        asked = [dice.randrange(-60, 60) for _ in range(dice.randrange(1, 4))]
        text = " ".join(str(number) for number in asked)
        web = webs[name]
        width = dice.choice((1, 4, 9, 3000))
        return dice.choice((
            (f"row {new} {text}", new, lambda: by_signs(asked)),
            (f"deep {new} {text}", new, lambda: deep(asked)),
            (f"shared {new} {text}", new, lambda: shared(asked)),
            (f"prune {name}", name, lambda: pruned(web)),
            (f"bare {name}", name, lambda: bare(web)),
            (f"turn {name}", name, lambda: turned(web)),
            (f"behind {new} {one} {other}", new, lambda: behind(webs[one], webs[other])),
            (f"beside {new} {one} {other}", new, lambda: beside(webs[one], webs[other])),
            (f"both {new} {one} {other}", new, lambda: both(webs[one], webs[other])),
            (f"depth {name}", None, lambda: str(depth(web))),
            (f"deeds {name}", None, lambda: str(len(web[1]))),
            (f"show {name}", None, lambda: shown(web)),
            (f"numbers {name}", None, lambda: " ".join(",".join(map(str, row)) for row in out_numbers(web)) or "-"),
            (f"run {name} {text}", None, lambda: " ".join(map(str, run_outs(web, asked))) or "-"),
            (f"within {name} {width} {text}", None, lambda: " ".join(map(str, outs_in(web, width, asked))) or "-"),
            (f"range {name} {width}", None, lambda: "{} {}".format(*range_in(web, width))),
        ))

    def test_many_rows(self):
        dice = chance(90)
        refusals = 0
        for _ in range(25):
            desk, webs = Desk(), {"start": (2, [("less", 0, 2, 1, 0)], [(2, 0, 1), (1, 0, -1)])}
            for row in ("web start 2", "deed start 0<<2 - 1", "out start 2", "out start -1"):
                desk.say(row)
            for _ in range(60):
                row, name, told = self.answer(webs, dice)
                try:
                    expected = told()
                except ShiftError as refusal:
                    refusals += 1
                    with self.assertRaises(type(refusal)):
                        desk.say(row)
                    continue
                if name is not None and len(expected[1]) > 200:
                    continue
                if name is None:
                    self.assertEqual(desk.say(row), expected, row)
                else:
                    self.assertEqual(desk.say(row), "ok", row)
                    self.assertEqual(desk.say(f"show {name}"), shown(expected), row)
                    self.assertIs(is_web(expected), True)
                    webs[name] = expected
        self.assertGreater(refusals, 50)


if __name__ == "__main__":
    unittest.main()
