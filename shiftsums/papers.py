"""Papers: whether what is handed in shows that no web has certain cores with so few deeds."""

from shiftsums.made import made, refuse_beyond, wanted
from shiftsums.webs import is_between


def shows(paper, numbers, top, most):
    refuse_beyond(top, most)
    if not is_paper(paper, top, most):
        return False
    asked = wanted(numbers)
    if most == 0:
        return asked != []
    if not any([1 in cores for cores in paper[0]]):
        return False
    if not all([leads_on(level, following, top) for level, following in zip(paper, paper[1:])]):
        return False
    return not any([finishes(cores, asked, top) for cores in paper[-1]])


def is_paper(paper, top, most):
    return isinstance(paper, list) and len(paper) == most and all([is_level(level, top) for level in paper])


def is_level(level, top):
    return isinstance(level, list) and all([is_core_set(cores, top) for cores in level])


def is_core_set(cores, top):
    if not isinstance(cores, tuple) or not all([is_between(odd, 1, top) and odd & 1 == 1 for odd in cores]):
        return False
    return all([one < other for one, other in zip(cores, cores[1:])])


def leads_on(level, following, top):
    masks = [mask_of(cores) for cores in following]
    return all([is_led_on(cores, masks, top) for cores in level])


def is_led_on(cores, masks, top):
    whole = mask_of(cores)
    reached = 0
    for mask in masks:
        if mask & whole == whole:
            reached = reached | mask
    asked = mask_of(made(cores, top))
    return asked & reached == asked


def mask_of(cores):
    # A bit for each core, so that one step tells whether a set has all of another one.
    return sum([1 << odd for odd in cores])


def finishes(cores, asked, top):
    # Whether one deed more, or none, is enough for all that is asked for.
    lacking = [odd for odd in asked if odd not in cores]
    return len(lacking) == 0 or (len(lacking) == 1 and lacking[0] in made(cores, top))
