"""Webs: what one is, the numbers of its things and outs, and its arrows."""

from shiftsums.errors import NoWeb
from shiftsums.numbers import is_whole, shifted

MOST_INS = 12
MOST_OUTS = 12
FURTHEST = 4000
NO_OUT = (0, 0, 0)


def is_web(thing):
    if not isinstance(thing, tuple) or len(thing) != 3:
        return False
    try:
        web_of(thing[0], thing[1], thing[2])
    except NoWeb:
        return False
    return True


def web_of(ins, deeds, outs):
    if not is_between(ins, 1, MOST_INS) or not isinstance(deeds, list) or not isinstance(outs, list):
        raise NoWeb(None)
    rows = input_rows(ins)
    for place, deed in enumerate(deeds):
        if not is_deed(deed, rows):
            raise NoWeb(place)
        rows.append(deed_row(deed, rows))
    for place, out in enumerate(outs):
        if place >= MOST_OUTS or not is_out(out, rows):
            raise NoWeb(len(deeds) + place)
    return (ins, list(deeds), list(outs))


def is_between(thing, low, high):
    return is_whole(thing) and low <= thing <= high


def is_deed(deed, rows):
    if not isinstance(deed, tuple) or len(deed) != 5:
        return False
    return deed[0] in ("sum", "less") and is_part(deed[1], deed[2], rows) and is_part(deed[3], deed[4], rows)


def is_out(out, rows):
    if not isinstance(out, tuple) or len(out) != 3:
        return False
    # A truth equals 0 or 1, so the kinds are looked at ahead of the numbers.
    if not all([is_whole(part) for part in out]):
        return False
    return out == NO_OUT or (out[2] in (1, -1) and is_part(out[0], out[1], rows))


def is_part(thing, shift, rows):
    if not is_between(thing, 0, len(rows) - 1) or not is_between(shift, -FURTHEST, FURTHEST):
        return False
    return None not in shifted_row(rows[thing], shift)


def shifted_row(row, shift):
    return [shifted(number, shift) for number in row]


def input_rows(ins):
    return [input_row(ins, thing) for thing in range(ins)]


def input_row(ins, thing):
    return tuple([1 if place == thing else 0 for place in range(ins)])


def deed_row(deed, rows):
    left = shifted_row(rows[deed[1]], deed[2])
    right = shifted_row(rows[deed[3]], deed[4])
    sign = second_sign(deed)
    return tuple([one + sign * other for one, other in zip(left, right)])


def second_sign(deed):
    return -1 if deed[0] == "less" else 1


def numbers(web):
    rows = input_rows(web[0])
    for deed in web[1]:
        rows.append(deed_row(deed, rows))
    return rows


def out_numbers(web):
    rows = numbers(web)
    return [out_row(out, rows) for out in web[2]]


def out_row(out, rows):
    # The sign 0 of (0, 0, 0) makes noughts of whatever the thing 0 has.
    return tuple([out[2] * number for number in shifted_row(rows[out[0]], out[1])])


def arrows(web):
    return deed_arrows(web) + out_arrows(web)


def deed_arrows(web):
    told = []
    for place, deed in enumerate(web[1]):
        thing = web[0] + place
        told.append((deed[1], thing, deed[2], 1))
        told.append((deed[3], thing, deed[4], second_sign(deed)))
    return told


def out_arrows(web):
    behind = thing_count(web)
    return [(out[0], behind + place, out[1], out[2]) for place, out in enumerate(web[2]) if out[2] != 0]


def thing_count(web):
    return web[0] + len(web[1])
