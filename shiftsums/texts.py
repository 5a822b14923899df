"""Webs written as texts, and read of them."""

from shiftsums.errors import NoText
from shiftsums.webs import MOST_INS, MOST_OUTS, NO_OUT, deed_row, input_rows, is_between, is_deed, is_out

FIGURES = "0123456789"
MOST_SHIFT_FIGURES = 4
WORDS_BY_SIGN = {"+": "sum", "-": "less"}
SIGNS_BY_WORD = {"sum": "+", "less": "-"}


def shown(web):
    ins = web[0]
    lines = [f"in {ins}"]
    lines.extend([shown_deed(deed) for deed in web[1]])
    lines.extend([shown_out(out) for out in web[2]])
    return "\n".join(lines)


def shown_deed(deed):
    left = shown_part(deed[1], deed[2])
    right = shown_part(deed[3], deed[4])
    sign = SIGNS_BY_WORD[deed[0]]
    return f"{left} {sign} {right}"


def shown_out(out):
    if out[2] == 0:
        return "out none"
    part = shown_part(out[0], out[1])
    return f"out {part}" if out[2] == 1 else f"out -{part}"


def shown_part(thing, shift):
    far = abs(shift)
    if shift == 0:
        return f"{thing}"
    return f"{thing}<<{far}" if shift > 0 else f"{thing}>>{far}"


def read(text):
    if not isinstance(text, str):
        raise NoText(0)
    lines = text.split("\n")
    ins = read_ins(lines[0])
    if ins is None:
        raise NoText(0)
    rows = input_rows(ins)
    deeds = []
    outs = []
    for place, line in enumerate(lines[1:]):
        deed = read_deed(line.split(" "))
        out = read_out(line.split(" "))
        if outs == [] and is_deed(deed, rows):
            deeds.append(deed)
            rows.append(deed_row(deed, rows))
        elif len(outs) < MOST_OUTS and is_out(out, rows):
            outs.append(out)
        else:
            raise NoText(place + 1)
    return (ins, deeds, outs)


def read_ins(line):
    words = line.split(" ")
    if len(words) != 2 or words[0] != "in":
        return None
    ins = read_figures(words[1])
    return ins if is_between(ins, 1, MOST_INS) else None


def read_deed(words):
    if len(words) != 3:
        return None
    left = read_part(words[0])
    word = read_sign(words[1])
    right = read_part(words[2])
    if left is None or word is None or right is None:
        return None
    return (word, left[0], left[1], right[0], right[1])


def read_sign(sign):
    return WORDS_BY_SIGN.get(sign)


def read_out(words):
    if len(words) != 2 or words[0] != "out":
        return None
    return read_end(words[1])


def read_end(word):
    if word == "none":
        return NO_OUT
    sign = -1 if word.startswith("-") else 1
    part = read_part(word[1:] if sign == -1 else word)
    return None if part is None else (part[0], part[1], sign)


def read_part(word):
    for mark, sign in (("<<", 1), (">>", -1)):
        if mark in word:
            return read_shifted(word.partition(mark), sign)
    thing = read_figures(word)
    return None if thing is None else (thing, 0)


def read_shifted(pieces, sign):
    thing = read_figures(pieces[0])
    shift = read_figures(pieces[2])
    if thing is None or shift is None or shift == 0 or len(pieces[2]) > MOST_SHIFT_FIGURES:
        return None
    return (thing, sign * shift)


def read_figures(word):
    if word == "" or not all([sign in FIGURES for sign in word]):
        return None
    if word.startswith("0") and word != "0":
        return None
    return int(word)
