"""The signs of a number: its digits -1, 0 and 1, as few as can be not 0."""


def signs(number):
    digits = []
    rest = number
    while rest != 0:
        digit = first_sign(rest)
        digits.append(digit)
        rest = (rest - digit) >> 1
    return digits


def first_sign(number):
    if number & 1 == 0:
        return 0
    # What is left must be a multiple of four, so that the digit behind this one is 0.
    return 2 - (number & 3)


def value_of(digits):
    value = 0
    for digit in reversed(digits):
        value = 2 * value + digit
    return value


def least(number):
    return len([digit for digit in signs(number) if digit != 0])
