"""Rows: webs of one input that make told numbers, by signs and as shallow as can be."""

from shiftsums.numbers import core
from shiftsums.parts import deed_of, out_for, sign_of
from shiftsums.signs import least, signs


def by_signs(numbers):
    deeds = []
    parts = {}
    for odd in unlike_cores(numbers):
        parts[odd] = (add_chain(deeds, odd), 0, 1)
    return (1, deeds, [out_for(number, parts) for number in numbers])


def deep(numbers):
    deeds = []
    parts = {}
    for odd in unlike_cores(numbers):
        parts[odd] = (add_tree(deeds, odd), 0, 1)
    return (1, deeds, [out_for(number, parts) for number in numbers])


def least_depth(numbers):
    return max([halvings_to_one(least(number)) for number in numbers], default=0)


def halvings_to_one(count):
    return (count - 1).bit_length() if count > 1 else 0


def unlike_cores(numbers):
    found = {}
    for number in numbers:
        if number != 0:
            found[core(number)[0]] = True
    return list(found)


def add_chain(deeds, odd):
    # A number above 0 has 1 as its last sign: the chain begins with the input itself.
    made = 0
    gap = 0
    for digit in reversed(signs(odd)[:-1]):
        gap += 1
        if digit != 0:
            deeds.append(deed_of((made, gap, 1), (0, 0, digit)))
            made = len(deeds)
            gap = 0
    return made


def add_tree(deeds, odd):
    parts = [(0, place, digit) for place, digit in enumerate(signs(odd)) if digit != 0]
    while len(parts) > 1:
        parts = paired(deeds, parts)
    # What is left has the sign 1: -1 would need the sign -1 of all the parts, and the number is above 0.
    return parts[0][0]


def paired(deeds, parts):
    told = []
    for place in range(0, len(parts) - 1, 2):
        low = parts[place]
        high = parts[place + 1]
        first = (low[0], 0, low[2])
        second = (high[0], high[1] - low[1], high[2])
        deeds.append(deed_of(first, second))
        told.append((len(deeds), low[1], sign_of(first, second)))
    if len(parts) & 1 == 1:
        told.append(parts[-1])
    return told
