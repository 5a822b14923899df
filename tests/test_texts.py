"""Webs written and read: promises 2, 3 (a web read of its text is the same web) and 33."""

import copy
import re
import string
import unittest

from samples import ANYTHING, SIXTY, chance, one_row, plain_rows, power, some_webs
from shiftsums.errors import NoText, ShiftError
from shiftsums.fewest import fewest
from shiftsums.joins import behind, beside, both
from shiftsums.rows import by_signs, deep
from shiftsums.shared import shared
from shiftsums.texts import read, shown
from shiftsums.webs import is_web

PART = r"(0|[1-9][0-9]*)(?:(<<|>>)([1-9][0-9]{0,3}))?"
DEED = re.compile(f"{PART} ([+-]) {PART}")
OUT = re.compile(f"out (-?){PART}")
WEB = (2, [("sum", 0, 3, 1, 0), ("less", 2, 1, 2, 2), ("sum", 3, -1, 0, 12)], [(4, 0, 1), (3, 4, -1), (0, 0, 0), (2, 0, -1)])
TEXT = "in 2\n0<<3 + 1\n2<<1 - 2<<2\n3>>1 + 0<<12\nout 4\nout -3<<4\nout none\nout -2"
EVEN = "in 1\n0<<5 + 0<<4"


def part(thing, mark, shift):
    return int(thing), {"<<": 1, ">>": -1}.get(mark, 0) * int(shift or 0)


def stands(rows, thing, shift):
    return thing < len(rows) and abs(shift) <= 4000 and all((number * power(shift)).denominator == 1 for number in rows[thing])


def plain_read(text):
    """The web, or the number of the first wrong line: by patterns, line by line."""
    lines = text.split("\n")
    if not re.fullmatch("in ([1-9]|1[0-2])", lines[0]):
        return 0
    ins, deeds, outs = int(lines[0][3:]), [], []
    rows = plain_rows((ins, [], []))
    for place, line in enumerate(lines[1:], start=1):
        found = DEED.fullmatch(line)
        if found and not outs:
            a, s = part(*found.groups()[:3])
            b, t = part(*found.groups()[4:])
            if not stands(rows, a, s) or not stands(rows, b, t):
                return place
            deeds.append(({"+": "sum", "-": "less"}[found.group(4)], a, s, b, t))
            rows.append(one_row(deeds[-1], rows))
            continue
        found = OUT.fullmatch(line)
        if len(outs) == 12 or not (found or line == "out none"):
            return place
        if found and not stands(rows, *part(*found.groups()[1:])):
            return place
        outs.append((*part(*found.groups()[1:]), -1 if found.group(1) else 1) if found else (0, 0, 0))
    return (ins, deeds, outs)


class Texts(unittest.TestCase):
    def hold_line(self, text, line):
        with self.assertRaises(NoText) as caught:
            read(text)
        self.assertIsInstance(caught.exception, ShiftError)
        self.assertEqual(caught.exception.line, line, text)
        self.assertIs(type(caught.exception.line), int)

    def hold_web(self, web):
        kept = copy.deepcopy(web)
        text = shown(web)
        self.assertEqual(web, kept)
        self.assertIs(type(text), str)
        told = read(text)
        self.assertEqual(told, web)
        self.assertIs(is_web(told), True)
        self.assertEqual(shown(told), text)
        self.assertEqual(plain_read(text), web)
        self.assertEqual(text.count("\n"), len(web[1]) + len(web[2]))

    def hold(self, text):
        told = plain_read(text)
        if isinstance(told, int):
            self.hold_line(text, told)
        else:
            self.assertEqual(read(text), told, text)
            self.assertEqual(shown(told), text)


class Shown(Texts):
    def test_each_kind_of_line(self):
        self.assertEqual(shown(WEB), TEXT)
        self.assertEqual(read(TEXT), WEB)
        self.assertEqual(shown((1, [], [])), "in 1")
        self.assertEqual(shown((12, [], [(11, 0, 1)])), "in 12\nout 11")
        self.assertEqual(shown((1, [("less", 0, 0, 0, 0)], [(1, -40, -1)])), "in 1\n0 - 0\nout -1>>40")
        self.assertEqual(shown((1, [], [(0, 0, 0), (0, 0, -1), (0, 0, 1)])), "in 1\nout none\nout -0\nout 0")

    def test_the_furthest_shifts(self):
        web = (1, [("sum", 0, 4000, 0, 4000), ("less", 1, -4000, 1, -1)], [(1, -4000, 1), (0, 4000, -1), (2, 999, 1)])
        self.assertEqual(shown(web), "in 1\n0<<4000 + 0<<4000\n1>>4000 - 1>>1\nout 1>>4000\nout -0<<4000\nout 2<<999")
        self.hold_web(web)

    def test_webs_of_all_sizes(self):
        for furthest in (0, 1, 3, 40):
            for web in some_webs(80 + furthest, 60, furthest):
                self.hold_web(web)
        self.hold_web((12, [("sum", 11, 0, k, 1) for k in range(60)], [(71, 40, -1)] * 12))

    def test_told_webs(self):
        rows = [by_signs([SIXTY[1], 0, -SIXTY[2]]), deep([SIXTY[1]] * 2 + [45]), shared([999999999989, 0]), fewest([43, 69], 69, 3)[1]]
        for web in rows + [behind(by_signs([SIXTY[1]]), rows[0]), beside(rows[0], rows[1]), both(rows[2], rows[3])]:
            self.hold_web(web)

    def test_a_told_web_is_the_askers_own(self):
        first = read(TEXT)
        spoilt = read(TEXT)
        spoilt[1].clear()
        spoilt[2].clear()
        self.assertEqual(first, WEB)
        self.assertEqual(read(TEXT), WEB)

    def test_by_name(self):
        self.assertEqual(shown(web=(1, [], [])), "in 1")
        self.assertEqual(read(text="in 1"), (1, [], []))


class Read(Texts):
    def test_no_texts(self):
        for thing in ANYTHING:
            if not isinstance(thing, str):
                self.hold_line(thing, 0)
        for thing in (None, 0, 5, True, [], ["in 1"], ("in 1",), {"in 1": 1}, (1, [], []), WEB, 10 ** 60 - 1):
            self.hold_line(thing, 0)

    def test_the_first_line(self):
        for ins in range(1, 13):
            self.assertEqual(read(f"in {ins}"), (ins, [], []))
        for line in (
            "", " ", "\n", "in", "in ", "in 0", "in 13", "in 01", "in 012", "in -1", "in +1", "in 1 ", " in 1", "in  1", "in 1 1", "In 1", "IN 1", "in one",
            "in1", "i 1", "ins 1", "out 0", "0 + 0", "in 1.0", "in 99999999999999999999", "in 1,", "\nin 1", "in\n1", "in 1\t", "in\t1", "1", "in 0x1", "in 1_0",
        ):
            self.hold(line)
            self.hold_line(line, 0)
            self.hold_line(line + "\nout 0", 0)
            self.hold_line(line + "\n", 0)

    def test_line_ends(self):
        self.hold_line("in 1\n", 1)
        self.hold_line("in 1\n\n", 1)
        self.hold_line(TEXT + "\n", 8)
        self.hold_line("in 1\n\nout 0", 1)
        self.hold_line("in 1\r\nout 0", 0)
        self.hold_line("in 1\nout 0\r\nout 0", 1)
        self.hold_line("in 1\rout 0", 0)

    def test_lines_of_no_form(self):
        for line in (
            "", " ", "x", "0", "0 +", "+ 0", "0 + ", " 0 + 0", "0 + 0 ", "0  + 0", "0 +  0", "0+0", "0 +0", "0+ 0", "0 + 0 + 0", "0 * 0", "0 / 0", "0 ++ 0", "0 -- 0",
            "0 +- 0", "-0 + 0", "0 + -0", "0 - -0", "+0 + 0", "00 + 0", "0 + 00", "0 + 01", "01 + 0", "0<<0 + 0", "0>>0 + 0", "0<<01 + 0", "0<< + 0", "<<1 + 0", "0<1 + 0",
            "0<<<1 + 0", "0<<1<<1 + 0", "0<<1>>1 + 0", "0>>1<<1 + 0", "0<<-1 + 0", "0<<+1 + 0", "0 <<1 + 0", "0<< 1 + 0", "0 + 0<<10000", "0 + 0<<00001", "0 + 0>>40000", "0<<99999 + 0",
            "in 1", "out", "out ", "out  0", "out 0 ", " out 0", "out 0 0", "out +0", "out --0", "out - 0", "out -", "out none ", "out -none", "out None", "out nones", "outnone", "out0",
            "out 00", "out 01", "out -00", "out 0<<0", "out 0<<01", "out 0<<", "out 0<<12345", "out 0<<-1", "Out 0", "out x", "out 0x0", "out 0.0", "out 1e0", "out 0,0", "out (0, 0, 0)",
            "sum 0 0 0 0", "0 sum 0", "none", "out 0_0", "0 + 0\t", "\t0 + 0",
        ):
            self.hold("in 1\n" + line)
            self.hold_line("in 1\n" + line, 1)
            self.hold_line("in 1\n" + line + "\nout 0", 1)
            self.hold_line(EVEN + "\n" + line, 2)
            self.hold_line(EVEN + "\nout 1>>4\n" + line, 3)

    def test_things_that_are_not_there(self):
        for line in ("1 + 0", "0 + 1", "1 - 1", "out 1", "out -1", "9 + 0", "out 99999999999", "10 + 0", "0 + 12345678901234567890", "out 1<<3"):
            self.hold_line("in 1\n" + line, 1)
        # A thing of its own, and one behind it.
        self.hold_line(EVEN + "\n2 + 0", 2)
        self.hold_line(EVEN + "\n0 + 2", 2)
        self.hold_line(EVEN + "\n3 + 0\n0 + 0", 2)
        self.assertEqual(len(read(EVEN + "\n1 + 0\n2 + 2")[1]), 3)
        self.hold_line("in 12\nout 12", 1)
        self.assertEqual(read("in 12\nout 11"), (12, [], [(11, 0, 1)]))

    def test_shifts_too_far(self):
        for line in ("0<<4001 + 0", "0 - 0<<4001", "0<<9999 + 0", "out 0<<4001", "out -0<<9999", "out 0>>1", "0>>1 + 0", "0 + 0>>1", "out -0>>4000"):
            self.hold("in 1\n" + line)
            self.hold_line("in 1\n" + line, 1)
        for line in ("1>>5 + 0", "0 + 1>>5", "out 1>>5", "out -1>>5", "1>>4001 + 0", "out 1>>4001"):
            self.hold_line(EVEN + "\n" + line, 2)
        for line in ("1>>4 + 0", "0 - 1>>4", "out 1>>4", "out -1>>1", "1<<4000 - 0<<1000"):
            self.assertEqual(shown(read(EVEN + "\n" + line)), EVEN + "\n" + line)
        # Noughts may go down as far as shifts go, but no further.
        self.assertEqual(read("in 1\n0 - 0\nout 1>>4000")[2], [(1, -4000, 1)])
        self.hold_line("in 1\n0 - 0\nout 1>>4001", 2)

    def test_a_deed_behind_an_out(self):
        self.hold_line("in 1\nout 0\n0 + 0", 2)
        self.hold_line("in 1\nout none\n0 + 0\nout 0", 2)
        self.hold_line(TEXT + "\n0 + 0", 8)

    def test_thirteen_outs(self):
        for line in ("out 0", "out none", "out -0<<3"):
            self.assertEqual(len(read("in 1" + 12 * ("\n" + line))[2]), 12)
            self.hold_line("in 1" + 13 * ("\n" + line), 13)
            self.hold_line(EVEN + 14 * ("\n" + line), 14)

    def test_the_first_of_two_wrong_lines(self):
        self.hold_line("in 1\n0 + 1\nx", 1)
        self.hold_line("in 1\nx\n0 + 1", 1)
        self.hold_line("in 1\n0 + 0\n5 + 0\nout\nout 9", 2)
        self.hold_line("in 0\nx", 0)
        self.hold_line("in 1\nout 1\n0 + 0", 1)
        self.hold_line("in 1\nout 0\n0 + 0\nout 9", 2)

    def test_every_single_sign_left_out_put_in_or_changed(self):
        signs = string.digits + "+-<> \nino utex.\t~" + "_"
        for text in (TEXT, "in 12\n11>>1 - 0\nout 10", "in 1\n0 - 0\n1>>9 + 1\nout -2>>3"):
            for place in range(len(text) + 1):
                self.hold(text[:place] + text[place + 1:])
                for sign in signs:
                    self.hold(text[:place] + sign + text[place:])
                    self.hold(text[:place] + sign + text[place + 1:])

    def test_every_line_left_out_doubled_or_moved(self):
        lines = TEXT.split("\n")
        for place in range(len(lines)):
            self.hold("\n".join(lines[:place] + lines[place + 1:]))
            self.hold("\n".join(lines[:place + 1] + lines[place:]))
            for other in range(len(lines)):
                moved = lines[:place] + lines[place + 1:]
                self.hold("\n".join(moved[:other] + [lines[place]] + moved[other:]))

    def test_lines_by_chance(self):
        dice = chance(84)
        words = ("0", "1", "2", "3", "0<<1", "1>>1", "2<<3", "3>>3", "12", "4>>2")
        for _ in range(1500):
            lines = [f"in {dice.choice((1, 2, 3))}"]
            for _ in range(dice.randrange(6)):
                lines.append(f"{dice.choice(words)} {dice.choice('+-')} {dice.choice(words)}")
            for _ in range(dice.randrange(3)):
                lines.append(dice.choice(("out none", f"out {dice.choice(words)}", f"out -{dice.choice(words)}")))
            self.hold("\n".join(lines))

    def test_other_signs_of_other_scripts(self):
        for text in ("in \u0661", "in 1\n\u0660 + 0", "in 1\nout 0<<\u00b2", "in 1\u00a0", "in 1\nout \u2212" + "0"):
            self.hold_line(text, text.count("\n"))


if __name__ == "__main__":
    unittest.main()
