"""The desk: webs kept by names, told and asked by rows of words."""

from shiftsums.answers import answer
from shiftsums.words import given_by, words_of


class Desk:
    def __init__(self):
        self.webs = {}

    def say(self, row):
        words = words_of(row)
        return answer(words[0], self.webs, given_by(words, self.webs))
