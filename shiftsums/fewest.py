"""Rows of the fewest deeds, with papers which show that none within the bound has fewer."""

from shiftsums.made import doublings, level_behind, refuse_beyond, wanted
from shiftsums.numbers import core
from shiftsums.papers import finishes
from shiftsums.parts import add_sum, moved, out_for


def fewest(numbers, top, most):
    refuse_beyond(top, most)
    asked = wanted(numbers)
    if asked == []:
        return ("web", row_of((1,), numbers, top), None)
    paper = []
    while len(paper) < most:
        level = level_behind(paper, top)
        ends = [cores for cores in level if finishes(cores, asked, top)]
        if ends != []:
            return ("web", row_of(with_all(ends[0], asked), numbers, top), paper)
        paper.append(level)
    return ("none", paper)


def with_all(cores, asked):
    return cores + tuple([odd for odd in asked if odd not in cores])


def row_of(cores, numbers, top):
    deeds = []
    parts = {1: (0, 0, 1)}
    # The cores don't stand in the order in which they can be made; but of those that are left one always can be.
    while len(parts) < len(cores):
        for odd in cores:
            way = None if odd in parts else way_to(odd, parts, top)
            if way is not None:
                parts[odd] = add_core(deeds, parts, way)
    return (1, deeds, [out_for(number, parts) for number in numbers])


def way_to(odd, parts, top):
    for left in parts:
        for right in parts:
            for shift, high in enumerate(doublings(left, top)):
                if core(high + right)[0] == odd:
                    return (left, shift, right, 1)
                if core(high - right)[0] == odd:
                    return (left, shift, right, -1)
    return None


def add_core(deeds, parts, way):
    one = moved(parts[way[0]], way[1], 1)
    other = moved(parts[way[2]], 0, way[3])
    found = core((way[0] << way[1]) + way[3] * way[2])
    # The sum is the core shifted and perhaps turned; the part that is kept for the core goes back from there.
    return moved(add_sum(1, deeds, one, other), -found[1], found[2])
