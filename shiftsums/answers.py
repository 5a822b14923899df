"""What a desk does and answers, row by row. webs are the desk's, by their names; given the words behind the first."""

from shiftsums.fewest import fewest
from shiftsums.joins import behind, beside, both
from shiftsums.rows import by_signs, deep
from shiftsums.runs import depth, run_outs
from shiftsums.shared import shared
from shiftsums.signs import signs
from shiftsums.texts import shown
from shiftsums.tidy import bare, pruned
from shiftsums.turned import turned
from shiftsums.webs import out_numbers, web_of
from shiftsums.widths import outs_in, range_in


def kept(webs, name, web):
    webs[name] = web
    return "ok"


def spaced(values):
    return " ".join([str(value) for value in values]) if values != [] else "-"


def answer_web(webs, given):
    return kept(webs, given[0], (given[1], [], []))


def answer_deed(webs, given):
    web = webs[given[0]]
    deed = (given[2], given[1][0], given[1][1], given[3][0], given[3][1])
    webs[given[0]] = web_of(web[0], web[1] + [deed], web[2])
    return str(web[0] + len(web[1]))


def answer_out(webs, given):
    web = webs[given[0]]
    webs[given[0]] = web_of(web[0], web[1], web[2] + [given[1]])
    return str(len(web[2]))


def answer_show(webs, given):
    return shown(webs[given[0]])


def answer_numbers(webs, given):
    return spaced([",".join([str(number) for number in row]) for row in out_numbers(webs[given[0]])])


def answer_run(webs, given):
    return spaced(run_outs(webs[given[0]], given[1:]))


def answer_within(webs, given):
    return spaced(outs_in(webs[given[0]], given[1], given[2:]))


def answer_range(webs, given):
    return spaced(list(range_in(webs[given[0]], given[1])))


def answer_depth(webs, given):
    return str(depth(webs[given[0]]))


def answer_deeds(webs, given):
    return str(len(webs[given[0]][1]))


def answer_signs(webs, given):
    digits = signs(given[0])
    return "".join([mark_of(digit) for digit in reversed(digits)]) if digits != [] else "0"


def mark_of(digit):
    if digit == 0:
        return "0"
    return "+" if digit == 1 else "-"


def answer_row(webs, given):
    return kept(webs, given[0], by_signs(given[1:]))


def answer_deep(webs, given):
    return kept(webs, given[0], deep(given[1:]))


def answer_shared(webs, given):
    return kept(webs, given[0], shared(given[1:]))


def answer_fewest(webs, given):
    told = fewest(given[3:], given[1], given[2])
    if told[0] == "web":
        webs[given[0]] = told[1]
    return told[0]


def answer_prune(webs, given):
    return kept(webs, given[0], pruned(webs[given[0]]))


def answer_bare(webs, given):
    return kept(webs, given[0], bare(webs[given[0]]))


def answer_turn(webs, given):
    return kept(webs, given[0], turned(webs[given[0]]))


def answer_behind(webs, given):
    return kept(webs, given[0], behind(webs[given[1]], webs[given[2]]))


def answer_beside(webs, given):
    return kept(webs, given[0], beside(webs[given[1]], webs[given[2]]))


def answer_both(webs, given):
    return kept(webs, given[0], both(webs[given[1]], webs[given[2]]))


ANSWERS = {
    "web": answer_web,
    "deed": answer_deed,
    "out": answer_out,
    "show": answer_show,
    "numbers": answer_numbers,
    "run": answer_run,
    "within": answer_within,
    "range": answer_range,
    "depth": answer_depth,
    "deeds": answer_deeds,
    "signs": answer_signs,
    "row": answer_row,
    "deep": answer_deep,
    "shared": answer_shared,
    "fewest": answer_fewest,
    "prune": answer_prune,
    "bare": answer_bare,
    "turn": answer_turn,
    "behind": answer_behind,
    "beside": answer_beside,
    "both": answer_both,
}


def answer(first, webs, given):
    return ANSWERS[first](webs, given)
