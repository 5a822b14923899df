"""Two webs joined: one behind the other, beside it, or on the same inputs."""

from shiftsums.errors import NoJoin
from shiftsums.parts import add_sum, moved, parts_of
from shiftsums.webs import MOST_INS, MOST_OUTS, thing_count


def behind(one, other):
    if len(one[2]) != other[0]:
        raise NoJoin("not as many inputs as there are outs ahead")
    ins = one[0]
    deeds = list(one[1])
    # For each thing of the other web the part that stands for it: no deed turns a thing or makes a nought of it,
    # but an out that is taken as an input may.
    stands = list(one[2])
    for deed in other[1]:
        parts = moved_parts(parts_of(deed), stands)
        stands.append(add_sum(ins, deeds, parts[0], parts[1]))
    return (ins, deeds, moved_parts(other[2], stands))


def moved_parts(parts, stands):
    return [moved(stands[thing], shift, sign) for thing, shift, sign in parts]


def beside(one, other):
    ins = one[0] + other[0]
    if ins > MOST_INS:
        raise NoJoin("more inputs than a web has")
    ones = list(range(one[0])) + deed_things(ins, one)
    others = list(range(one[0], ins)) + deed_things(ins + len(one[1]), other)
    return put_together(ins, renumbered(one, ones), renumbered(other, others))


def both(one, other):
    ins = one[0]
    if other[0] != ins:
        raise NoJoin("not as many inputs as the other web has")
    others = list(range(ins)) + deed_things(thing_count(one), other)
    return put_together(ins, one, renumbered(other, others))


def deed_things(start, web):
    return list(range(start, start + len(web[1])))


def renumbered(web, things):
    deeds = [(word, things[a], s, things[b], t) for word, a, s, b, t in web[1]]
    stands = [(thing, 0, 1) for thing in things]
    return (web[0], deeds, moved_parts(web[2], stands))


def put_together(ins, one, other):
    outs = one[2] + other[2]
    if len(outs) > MOST_OUTS:
        raise NoJoin("more outs than a web has")
    return (ins, one[1] + other[1], outs)
