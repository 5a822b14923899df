"""Cores: which ones a deed makes of others, which ones numbers want, and how few deeds each one takes."""

from shiftsums.errors import TooMany
from shiftsums.numbers import core
from shiftsums.runs import run

TOP_AT_MOST = 99
DEEDS_AT_MOST = 4
TOP_WITH_ALL_DEEDS = 31


def made(cores, top):
    sums = {}
    for left in cores:
        for high in doublings(left, top):
            for right in cores:
                sums[high + right] = True
                sums[high - right] = True
    return sorted(set([odd for odd in cores_of(sums) if 0 < odd <= top]))


def doublings(odd, top):
    # What is doubled even once makes, with an odd number, an odd sum, which is its own core.
    # So beyond twice top, with another one of at most top added or taken away, the core is above top.
    told = [odd]
    while told[-1] <= top:
        told.append(2 * told[-1])
    return told


def cores_of(numbers):
    return [core(number)[0] for number in numbers]


def wanted(numbers):
    return sorted(set([odd for odd in cores_of(numbers) if odd > 1]))


def is_within(web, top):
    # Run with 1, a web of one input has the numbers of its things as their values.
    return max(cores_of(run(web, [1]))) <= top


def refuse_beyond(top, most):
    if top > TOP_AT_MOST or most > DEEDS_AT_MOST or (top > TOP_WITH_ALL_DEEDS and most > DEEDS_AT_MOST - 1):
        raise TooMany("more than can be gone through")


def costs(top, most):
    refuse_beyond(top, most)
    counts = {1: 0}
    levels = []
    while len(levels) < most:
        levels.append(level_behind(levels, top))
        for cores in levels[-1]:
            for odd in made(cores, top):
                counts.setdefault(odd, len(levels))
    return sorted(counts.items())


def level_behind(levels, top):
    # The level with the number k, from 0 on, has the cores that webs with k deeds can have, set by set.
    if levels == []:
        return [(1,)]
    found = {}
    for cores in levels[-1]:
        for longer in grown(cores, top):
            found[longer] = True
    return list(found)


def grown(cores, top):
    more = [odd for odd in made(cores, top) if odd not in cores]
    # Where nothing more is made of a set it stays as it is: a paper must lead on from each set.
    return [tuple(sorted(cores + (odd,))) for odd in more] if more != [] else [cores]
