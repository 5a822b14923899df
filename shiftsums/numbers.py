"""Whole numbers: what one is, its core, and the number shifted."""


def is_whole(thing):
    # For Python a truth is an int too; here it is no whole number.
    return isinstance(thing, int) and not isinstance(thing, bool)


def core(number):
    if number == 0:
        return (0, 0, 0)
    size = abs(number)
    # A number and its negative share the lowest bit that is set, and none above it:
    # so all halvings are told at once, however many there are.
    shift = (size & -size).bit_length() - 1
    sign = 1 if number > 0 else -1
    return (size >> shift, shift, sign)


def shifted(number, shift):
    if shift >= 0:
        return number << shift
    halved = number >> -shift
    # Shifting down drops what is no whole number; shifting back shows whether something was dropped.
    if halved << -shift != number:
        return None
    return halved
