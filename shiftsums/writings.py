"""The least writings of a number in so many places: how many there are, and they themselves."""

from shiftsums.errors import TooMany
from shiftsums.signs import least

MOST_TOLD = 300


def how_many(number, places):
    counts = {0: 1}
    for level in reversed(levels(number, places)):
        counts = counts_ahead(level, counts)
    return counts.get(number, 0)


def writings(number, places):
    if how_many(number, places) > MOST_TOLD:
        raise TooMany("more writings than can be told")
    endings = {0: [[]]}
    # From the last place down, for then each list is part of a whole one:
    # from the first one up there might be far too many that lead nowhere.
    for level in reversed(levels(number, places)):
        endings = endings_ahead(level, endings)
    return sorted(endings.get(number, []))


def levels(number, places):
    told = []
    rests = {number: True}
    for place in range(places):
        level = {}
        following = {}
        for rest in rests:
            level[rest] = steps(rest, places - place)
            for digit, left in level[rest]:
                following[left] = True
        told.append(level)
        rests = following
    return told


def steps(rest, places):
    # So few digits never come to a number with more bits: this spares the work on long numbers.
    if rest.bit_length() > places:
        return []
    if rest & 1 == 0:
        return [(0, rest >> 1)]
    count = least(rest)
    both = [(digit, (rest - digit) >> 1) for digit in (-1, 1)]
    return [step for step in both if least(step[1]) < count]


def counts_ahead(level, counts):
    ahead = {}
    for rest in level:
        ahead[rest] = sum([counts.get(left, 0) for digit, left in level[rest]])
    return ahead


def endings_ahead(level, endings):
    ahead = {}
    for rest in level:
        longer = []
        for digit, left in level[rest]:
            longer.extend([[digit] + ending for ending in endings.get(left, [])])
        ahead[rest] = longer
    return ahead
