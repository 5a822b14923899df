"""Webs tidied: which things are used, the web without the others, and without alike ones."""

from shiftsums.numbers import core, shifted
from shiftsums.parts import deed_of, parts_of, sign_of
from shiftsums.webs import NO_OUT, deed_arrows, numbers, thing_count


def used(web):
    told = [False for thing in range(thing_count(web))]
    for thing, shift, sign in web[2]:
        if sign != 0:
            told[thing] = True
    # From the last deed to the first, so that all that a thing is used for is known ahead of it.
    for start, goal, shift, sign in reversed(deed_arrows(web)):
        if told[goal]:
            told[start] = True
    return told


def pruned(web):
    ins = web[0]
    kept = used(web)
    renumbered = list(range(ins))
    deeds = []
    for place, deed in enumerate(web[1]):
        # The number of a thing that is left out stands here too, but nothing that is kept asks for it.
        renumbered.append(ins + len(deeds))
        if kept[ins + place]:
            deeds.append((deed[0], renumbered[deed[1]], deed[2], renumbered[deed[3]], deed[4]))
    outs = [(renumbered[thing], shift, sign) for thing, shift, sign in web[2]]
    return (ins, deeds, outs)


def form_of(row):
    # Alike rows have the same form: without common halvings, the first number that is not 0 above 0.
    cores = [core(number) for number in row if number != 0]
    if cores == []:
        return (row, 0, 0)
    shift = min([part[1] for part in cores])
    sign = cores[0][2]
    return (tuple([sign * shifted(number, -shift) for number in row]), shift, sign)


def is_bare(web):
    forms = [form_of(row) for row in numbers(web)]
    if any([form[2] == 0 for form in forms]):
        return False
    if len(set([form[0] for form in forms])) < len(forms):
        return False
    return all(used(web)[web[0]:])


def bare(web):
    # Pruned ahead of merging, lest a thing that is used is told by one that wasn't, with all that this one needs.
    return pruned(merged(pruned(web)))


def merged(web):
    forms = [form_of(row) for row in numbers(web)]
    kept = {}
    deeds = []
    for thing, form in enumerate(forms):
        if form[2] == 0 or form[0] in kept:
            continue
        if thing < web[0]:
            kept[form[0]] = (thing, 0, 1)
            continue
        parts = [part_by(kept, forms, part) for part in parts_of(web[1][thing - web[0]])]
        kept[form[0]] = (web[0] + len(deeds), form[1], form[2] * sign_of(parts[0], parts[1]))
        deeds.append(deed_of(parts[0], parts[1]))
    return (web[0], deeds, [part_by(kept, forms, out) for out in web[2]])


def part_by(kept, forms, part):
    form = forms[part[0]]
    if part[2] == 0 or form[2] == 0:
        return NO_OUT
    stand = kept[form[0]]
    return (stand[0], part[1] + form[1] - stand[1], part[2] * form[2] * stand[2])
