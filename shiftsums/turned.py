"""A web turned about: each out becomes an input, each input an out."""

from shiftsums.errors import Down, NoJoin
from shiftsums.parts import add_sum, moved
from shiftsums.webs import NO_OUT, arrows, thing_count


def turned(web):
    refuse_down(web)
    ins = len(web[2])
    if ins == 0:
        raise NoJoin("without outs there would be no inputs")
    deeds = []
    # Where a thing went to, its part now comes from: the parts of all arrows from a thing are added up.
    # Going back through the arrows, all of a thing's are there ahead of those that lead to it.
    parts = [NO_OUT for thing in range(thing_count(web))] + [(place, 0, 1) for place in range(ins)]
    for start, goal, shift, sign in reversed(arrows(web)):
        parts[start] = add_sum(ins, deeds, parts[start], moved(parts[goal], shift, sign))
    return (ins, deeds, parts[:web[0]])


def refuse_down(web):
    for place, deed in enumerate(web[1]):
        if deed[2] < 0 or deed[4] < 0:
            raise Down(place)
    for place, out in enumerate(web[2]):
        if out[1] < 0:
            raise Down(len(web[1]) + place)
