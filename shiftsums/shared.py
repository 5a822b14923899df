"""One row for several numbers, in which what is alike is made once."""

from shiftsums.rows import by_signs
from shiftsums.tidy import bare


def shared(numbers):
    # By signs each unlike core is made once; made bare, what the chains have in common is made once, too.
    return bare(by_signs(numbers))
