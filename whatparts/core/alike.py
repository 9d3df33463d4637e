"""Parts compared: by their words and the offers after them, or by their words alone."""

from whatparts.core.parts import check_part
from whatparts.core.tables import walk_both, word_to


def are_alike(one, other):
    """Whether two parts have the same words, and the same offer after each of them."""
    return difference(one, other) is None


def difference(one, other):
    """The first word of both after which their offers are not equal, or None."""
    _check_both(one, other)
    pairs, came = walk_both(one.steps, other.steps)
    for at, (first, second) in enumerate(pairs):
        if one.offer(first) != other.offer(second):
            return word_to(came, at)
    return None


def is_difference(one, other, value):
    """Whether the value is a word of both after which their offers are not equal."""
    _check_both(one, other)
    return value in one and value in other and one[value] != other[value]


def covers(one, other):
    """Whether each word of the second part is one of the first."""
    return word_beyond(one, other) is None


def word_beyond(one, other):
    """The first word of the second part that the first one does not have, or None."""
    _check_both(one, other)
    pairs, came = walk_both(one.steps, other.steps)
    for at, (first, second) in enumerate(pairs):
        had, _ = one.offer(first)
        asked, _ = other.offer(second)
        beyond = [action for action in asked if action not in had]
        if beyond:
            return word_to(came, at) + (beyond[0],)
    return None


def _check_both(one, other):
    """Raise InvalidPart for the first of two values that is no part."""
    check_part(one)
    check_part(other)
