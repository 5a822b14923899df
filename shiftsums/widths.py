"""Webs in numbers of a width: run there, with what is sure, and which width and which range are enough."""

from shiftsums.errors import NoJoin
from shiftsums.webs import deed_arrows, numbers, out_numbers


def wrapped(number, width):
    half = 1 << (width - 1)
    return ((number + half) & (2 * half - 1)) - half


def run_in(web, width, values):
    if len(values) != web[0]:
        raise NoJoin("not as many values as inputs")
    told = [wrapped(value, width) for value in values] + [0 for deed in web[1]]
    # Wrapped between the two parts as well: what is wrapped twice comes to the same.
    for start, goal, shift, sign in deed_arrows(web):
        told[goal] = wrapped(told[goal] + sign * shifted_in(told[start], shift, width), width)
    return told


def shifted_in(value, shift, width):
    return wrapped(value << shift, width) if shift >= 0 else value >> -shift


def outs_in(web, width, values):
    told = run_in(web, width, values)
    # Turned about, the least number of a width lies beyond its end: so it is wrapped once more.
    return [wrapped(sign * shifted_in(told[thing], shift, width), width) for thing, shift, sign in web[2]]


def sure(web, width):
    told = [width for thing in range(web[0])] + [width for deed in web[1]]
    for start, goal, shift, sign in deed_arrows(web):
        told[goal] = min(told[goal], max(0, told[start] + shift))
    return told


def fits(web, width, ranges):
    return width_for(web, ranges) <= width


def width_for(web, ranges):
    if len(ranges) != web[0]:
        raise NoJoin("not as many ranges as inputs")
    ends = []
    for row in numbers(web) + out_numbers(web):
        ends.append(end_of(row, ranges, 0))
        ends.append(end_of(row, ranges, 1))
    return max([width_of(end) for end in ends])


def end_of(row, ranges, side):
    # A number below 0 turns a range about: then the other end of the range leads to this one.
    return sum([number * pair[side if number > 0 else 1 - side] for number, pair in zip(row, ranges)])


def width_of(number):
    # One bit more than its figures by twos, for the sign; the numbers below 0 reach one further than those above.
    return (number if number >= 0 else -number - 1).bit_length() + 1


def range_in(web, width):
    if web[0] != 1:
        raise NoJoin("a range is told for one input alone")
    half = 1 << (width - 1)
    lows = []
    highs = []
    for row in numbers(web) + out_numbers(web):
        if row[0] > 0:
            lows.append(-(half // row[0]))
            highs.append((half - 1) // row[0])
        elif row[0] < 0:
            lows.append(-((half - 1) // -row[0]))
            highs.append(half // -row[0])
    return (max(lows), min(highs))
