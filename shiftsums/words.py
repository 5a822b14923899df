"""The rows of a desk: how many words each one has, and what each word must be."""

from shiftsums.errors import NoName, NoRow, NoWord
from shiftsums.texts import read_end, read_figures, read_part, read_sign

LETTERS = "abcdefghijklmnopqrstuvwxyz"
MOST_LETTERS = 8
MOST_FIGURES = 60
# For each row the kinds of its words, and how often at most the last one of them may stand (None: as often as asked).
FORMS = {
    "web": (("NEW", "INS"), 1),
    "deed": (("NAME", "PART", "SIGN", "PART"), 1),
    "out": (("NAME", "OUT"), 1),
    "show": (("NAME",), 1),
    "numbers": (("NAME",), 1),
    "run": (("NAME", "NUMBER"), None),
    "within": (("NAME", "WIDTH", "NUMBER"), None),
    "range": (("NAME", "WIDTH"), 1),
    "depth": (("NAME",), 1),
    "deeds": (("NAME",), 1),
    "signs": (("NUMBER",), 1),
    "row": (("NEW", "NUMBER"), 6),
    "deep": (("NEW", "NUMBER"), 6),
    "shared": (("NEW", "SHORT"), 6),
    "fewest": (("NEW", "TOP", "MOST", "NUMBER"), 6),
    "prune": (("NAME",), 1),
    "bare": (("NAME",), 1),
    "turn": (("NAME",), 1),
    "behind": (("NEW", "NAME", "NAME"), 1),
    "beside": (("NEW", "NAME", "NAME"), 1),
    "both": (("NEW", "NAME", "NAME"), 1),
}
BOUNDS = {
    "INS": (1, 12),
    "WIDTH": (1, 3000),
    "TOP": (1, 999),
    "MOST": (0, 999),
}
SHORT_BELOW = 1000000000000


def words_of(row):
    if not isinstance(row, str):
        raise NoRow("no text")
    words = row.split(" ")
    if words[0] not in FORMS:
        raise NoRow("no such row")
    return words


def given_by(words, webs):
    kinds = kinds_of(words[0], len(words) - 1)
    return [read_word(kind, word, webs) for kind, word in zip(kinds, words[1:])]


def kinds_of(first, count):
    form = FORMS[first]
    more = count - len(form[0])
    if more < 0 or (form[1] is not None and more >= form[1]):
        raise NoRow("too many words or too few")
    return list(form[0]) + [form[0][-1] for place in range(more)]


def read_word(kind, word, webs):
    if kind == "NEW" or kind == "NAME":
        if not is_name(word) or (kind == "NAME" and word not in webs):
            raise NoName("no name by which a web stands or may stand")
        return word
    told = read_value(kind, word)
    if told is None:
        raise NoWord("not so written, or out of bounds")
    return told


def is_name(word):
    return 1 <= len(word) <= MOST_LETTERS and all([letter in LETTERS for letter in word])


def read_value(kind, word):
    if kind == "PART":
        return read_part(word)
    if kind == "OUT":
        return read_end(word)
    if kind == "SIGN":
        return read_sign(word)
    number = read_number(word)
    return None if number is None or not is_in_bounds(kind, number) else number


def is_in_bounds(kind, number):
    if kind == "SHORT":
        return abs(number) < SHORT_BELOW
    return kind not in BOUNDS or BOUNDS[kind][0] <= number <= BOUNDS[kind][1]


def read_number(word):
    below = word.startswith("-")
    figures = word[1:] if below else word
    if word == "-0" or len(figures) > MOST_FIGURES:
        return None
    size = read_figures(figures)
    return -size if below and size is not None else size
