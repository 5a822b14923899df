"""Webs and numbers for the tests, and what webs make and can make, told by fractions, by going through all, and apart
from the program."""

import functools
import random
from fractions import Fraction

SIXTY = (10 ** 59, 10 ** 60 - 1, 123456789012345678901234567890123456789012345678901234567890)
BOTH_SIGNS = [sign * number for number in SIXTY for sign in (1, -1)]

# Of anything: what may be handed in where something is told of anything. None of these is a web.
ANYTHING = (
    None, True, False, 0, 1, -1, 12, 10 ** 60 - 1, "", "sum", "web", "in 1\n0 + 0", [], [0], [[]], [[], []],
    (), (1,), (1, []), (1, [], [], []), (None, None, None), ((), (), ()), ([], [], []), ({}, {}, {}), {}, {0: 1},
    {"ins": 1, "deeds": [], "outs": []}, [1, [], []], (1, (), []), (1, [], ()), (1, {}, []), (1, [], {}),
    (1, "", []), (1, [], ""), (1, None, []), (1, [], None), ("1", [], []), ([1], [], []), ([[[[1]]]],), {0: {1: {2: {}}}},
    (1, [[]], []), (1, [], [[]]), (1, [()], []), (1, [], [()]), (1, [None], []), (1, [], [None]), (1, [{}], []),
    (1, ["sum"], []), (1, [], ["out"]), (1, [5], []), (1, [], [5]), (1, True, []), (1, [], False), ((1, [], []),),
)


def chance(seed):
    return random.Random(seed)


def power(shift):
    return Fraction(2) ** shift


def one_row(deed, rows):
    word, a, s, b, t = deed
    turn = {"sum": 1, "less": -1}[word]
    return tuple(x * power(s) + turn * y * power(t) for x, y in zip(rows[a], rows[b]))


def plain_rows(web):
    """The numbers of all things, by fractions."""
    ins, deeds, outs = web
    rows = [tuple(Fraction(place == thing) for place in range(ins)) for thing in range(ins)]
    for deed in deeds:
        rows.append(one_row(deed, rows))
    return rows


def plain_out_rows(web):
    rows = plain_rows(web)
    return [tuple(x * power(shift) * sign for x in rows[thing]) for thing, shift, sign in web[2]]


def plain_value(row, values):
    return sum(number * value for number, value in zip(row, values, strict=True))


def halvings(row, most):
    """How far down, to most, a row of whole numbers may be shifted."""
    count = 0
    while count < most and all(number % 2 ** (count + 1) == 0 for number in row):
        count += 1
    return count


def some_shift(dice, row, furthest):
    lowest = -halvings(row, furthest)
    if dice.random() < 0.3:
        return dice.randint(lowest, furthest)
    return min(furthest, max(lowest, dice.choice((0, 0, 0, 1, 1, 2, 3, -1, -2))))


def some_web(dice, ins, deeds, outs, furthest=40):
    """A web of so many inputs, deeds and outs, with shifts up and, where they leave whole numbers, down."""
    rows = plain_rows((ins, [], []))
    made = []
    for _ in range(deeds):
        # Mostly of late things, so that webs are deep as well as broad.
        a, b = [dice.randrange(max(0, len(rows) - dice.choice((2, 5, 99))), len(rows)) for _ in range(2)]
        s, t = some_shift(dice, rows[a], furthest), some_shift(dice, rows[b], furthest)
        made.append((dice.choice(("sum", "less")), a, s, b, t))
        rows.append(one_row(made[-1], rows))
    ends = []
    for _ in range(outs):
        thing = dice.randrange(len(rows))
        out = (thing, some_shift(dice, rows[thing], furthest), dice.choice((1, -1)))
        ends.append((0, 0, 0) if dice.random() < 0.1 else out)
    return (ins, made, ends)


def some_webs(seed, count=60, furthest=40):
    """Webs of many sizes, the widest and the longest ones among them."""
    dice = chance(seed)
    for _ in range(count):
        sizes = (dice.choice((1, 1, 2, 3, 12)), dice.randrange(0, 12), dice.randrange(0, 6))
        yield some_web(dice, *sizes, furthest)
    for ins in (1, 2, 12):
        yield some_web(dice, ins, 60, 12, furthest)


def doublings(count, word="sum"):
    """A web of one input in which each deed takes the thing ahead of it twice."""
    return (1, [(word, k, 0, k, 0) for k in range(count)], [(count, 0, 1)])


def plain_used(web):
    """Which things are used, by going on as long as one more is found."""
    ins, deeds, outs = web
    found = {thing for thing, shift, sign in outs if sign != 0}
    while True:
        more = {thing for k, (word, a, s, b, t) in enumerate(deeds) if ins + k in found for thing in (a, b)}
        if more <= found:
            return [thing in found for thing in range(ins + len(deeds))]
        found |= more


def shifts_of(web):
    return [shift for deed in web[1] for shift in (deed[2], deed[4])] + [out[1] for out in web[2]]


def without_downs(web):
    """The web with its shifts below 0 taken as those above."""
    ins, deeds, outs = web
    return (ins, [(word, a, abs(s), b, abs(t)) for word, a, s, b, t in deeds], [(thing, abs(shift), sign) for thing, shift, sign in outs])


def plain_core(number):
    number = abs(number)
    while number != 0 and number % 2 == 0:
        number //= 2
    return number


@functools.cache
def plain_pair(u, v):
    """The cores, up to far above 99, of all that a deed makes of two things with the cores u and v."""
    near = range(12)
    sums = [u * 2 ** i + sign * v * 2 ** j for i in near for j in near for sign in (1, -1)]
    return frozenset(plain_core(number) for number in sums if number != 0)


def plain_made(cores, top):
    return sorted({odd for u in cores for v in cores for odd in plain_pair(u, v) if odd <= top})


@functools.cache
def plain_reach(top, deeds):
    """All sets of cores that webs within top with at most so many deeds have."""
    if deeds == 0:
        return frozenset({frozenset({1})})
    return frozenset(cores | {odd} for cores in plain_reach(top, deeds - 1) for odd in plain_made(cores, top))


def plain_fewest(asked, top, most):
    """How few deeds a row within top needs for the numbers; None where most of them are not enough."""
    needed = {plain_core(number) for number in asked} - {0}
    for deeds in range(most + 1):
        if any(needed <= cores for cores in plain_reach(top, deeds)):
            return deeds
    return None
