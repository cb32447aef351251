"""Names and ranks."""

from wirenames.errors import NoName, NoNext

FIGURES = "23456789"
MOST_LETTERS = 8


def stem_of(text):
    """The text without the one figure that may stand behind it."""
    if text and text[-1] in FIGURES:
        return text[:-1]
    return text


def is_name(thing):
    """Whether it is one to eight letters a to z, perhaps with one figure 2 to 9 behind."""
    if not isinstance(thing, str):
        return False
    stem = stem_of(thing)
    return 1 <= len(stem) <= MOST_LETTERS and all(["a" <= sign <= "z" for sign in stem])


def check_name(thing):
    if not is_name(thing):
        raise NoName("this is no name")


def has_next(name):
    """Whether there is a next name of this one."""
    return name[-1] != FIGURES[-1]


def next_name(name):
    """The name that is tried when this one is given up."""
    check_name(name)
    if not has_next(name):
        raise NoNext("there is no name behind this one")
    stem = stem_of(name)
    if stem == name:
        return name + FIGURES[0]
    return stem + FIGURES[FIGURES.index(name[-1]) + 1]


def is_greater(rank, other):
    """Whether the first of two ranks, pairs of mark and hand, is the greater one."""
    return (rank[0], rank[1]) > (other[0], other[1])
