"""Webs run with values, and how deep their things are."""

from shiftsums.errors import NoJoin
from shiftsums.numbers import shifted
from shiftsums.webs import deed_arrows, thing_count


def run(web, values):
    if len(values) != web[0]:
        raise NoJoin("not as many values as inputs")
    told = list(values) + [0 for deed in web[1]]
    # All arrows to a thing stand ahead of those from it.
    for start, goal, shift, sign in deed_arrows(web):
        told[goal] = told[goal] + sign * shifted(told[start], shift)
    return told


def run_outs(web, values):
    told = run(web, values)
    return [sign * shifted(told[thing], shift) for thing, shift, sign in web[2]]


def depths(web):
    told = [0 for thing in range(thing_count(web))]
    for start, goal, shift, sign in deed_arrows(web):
        told[goal] = max(told[goal], told[start] + 1)
    return told


def depth(web):
    told = depths(web)
    return max([told[thing] for thing, shift, sign in web[2] if sign != 0], default=0)


def layers(web):
    deep = depths(web)
    told = [[] for layer in range(max(deep) + 1)]
    for thing, layer in enumerate(deep):
        told[layer].append(thing)
    return told
