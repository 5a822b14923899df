"""Parts: tuples (thing, shift, sign), as outs are, which deeds are made of and take."""

from shiftsums.numbers import core
from shiftsums.webs import NO_OUT, second_sign


def parts_of(deed):
    return [(deed[1], deed[2], 1), (deed[3], deed[4], second_sign(deed))]


def moved(part, shift, sign):
    if part[2] * sign == 0:
        return NO_OUT
    return (part[0], part[1] + shift, part[2] * sign)


def deed_of(one, other):
    # No deed turns both of its parts: where both signs are -1 it makes the sum turned, and sign_of tells -1.
    if one[2] == other[2]:
        return ("sum", one[0], one[1], other[0], other[1])
    if one[2] == 1:
        return ("less", one[0], one[1], other[0], other[1])
    return ("less", other[0], other[1], one[0], one[1])


def sign_of(one, other):
    return one[2] if one[2] == other[2] else 1


def add_sum(ins, deeds, one, other):
    # What has the sign 0 adds nothing: the other part is the sum already, without a deed.
    if one[2] == 0:
        return other
    if other[2] == 0:
        return one
    deeds.append(deed_of(one, other))
    return (ins + len(deeds) - 1, 0, sign_of(one, other))


def out_for(number, parts):
    # For each core there is a part that has it as its number.
    if number == 0:
        return NO_OUT
    found = core(number)
    return moved(parts[found[0]], found[1], found[2])
