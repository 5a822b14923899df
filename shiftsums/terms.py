"""What a web makes, term by term."""

from shiftsums.errors import TooMany
from shiftsums.webs import deed_arrows, thing_count

MOST_TOLD = 500


def ways(web):
    told = [1 for thing in range(web[0])] + [0 for deed in web[1]]
    for start, goal, shift, sign in deed_arrows(web):
        told[goal] = told[goal] + told[start]
    return told


def terms(web, k):
    out = web[2][k]
    if out[2] == 0:
        return []
    if ways(web)[out[0]] > MOST_TOLD:
        raise TooMany("more terms than can be told")
    told = []
    for thing, ends in enumerate(ends_at_inputs(web, out)):
        told.extend([(thing, shift, sign) for shift, sign in ends])
    return sorted(told)


def ends_at_inputs(web, out):
    # From the out down, so that things that it doesn't hang on, with however many ways, make no work.
    ends = [[] for thing in range(thing_count(web))]
    ends[out[0]] = [(out[1], out[2])]
    for start, goal, shift, sign in reversed(deed_arrows(web)):
        longer = [(end[0] + shift, end[1] * sign) for end in ends[goal]]
        ends[start] = ends[start] + longer
    return ends[:web[0]]
