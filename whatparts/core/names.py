"""Names of actions, and the sets, words and offers that are made of them."""

from whatparts.errors import InvalidNumber, InvalidOperation

MAX_ACTIONS = 4
MAX_LETTERS = 8
MAX_LENGTH = 6
LETTERS = "abcdefghijklmnopqrstuvwxyz"


def is_count(value):
    """Whether the value is an integer from 0 on."""
    # Python counts True and False among the integers, this package does not.
    return isinstance(value, int) and not isinstance(value, bool) and value >= 0


def is_number(value, low, high):
    """Whether the value is an integer from low, which is at least 0, to high."""
    return is_count(value) and low <= value <= high


def is_name(value):
    """Whether the value is a string of one to eight letters a to z."""
    if not isinstance(value, str) or not 1 <= len(value) <= MAX_LETTERS:
        return False
    return all([letter in LETTERS for letter in value])


def is_word(value):
    """Whether the value is a tuple of names."""
    return isinstance(value, tuple) and all([is_name(name) for name in value])


def ascends(items):
    """Whether names, numbers or offers are strictly ascending."""
    return list(items) == sorted(set(items))


def is_set(value):
    """Whether the value is a set of names: an ascending tuple of them."""
    return is_word(value) and ascends(value)


def is_offer(value):
    """Whether the value is a pair of a set of names and a boolean."""
    if not isinstance(value, tuple) or len(value) != 2:
        return False
    return is_set(value[0]) and isinstance(value[1], bool)


def are_new_names(names, old):
    """Whether this is a dict from just these old names to different names."""
    if not isinstance(names, dict) or len(names) != len(old):
        return False
    if not all([name in names and is_name(names[name]) for name in old]):
        return False
    return len(set(list(names.values()))) == len(old)


def check_actions(actions):
    """Raise InvalidOperation for what is no set of at most four names."""
    if not is_set(actions) or len(actions) > MAX_ACTIONS:
        raise InvalidOperation("actions are no set of at most four names")


def check_length(most):
    """Raise InvalidNumber for what is no number of actions up to which words are listed."""
    if not is_number(most, 0, MAX_LENGTH):
        raise InvalidNumber(most)


def all_offers(actions):
    """All offers with actions of a set of at most four names, ascending."""
    check_actions(actions)
    subsets = [()]
    for action in actions:
        subsets = subsets + [subset + (action,) for subset in subsets]
    return tuple([(subset, rests) for subset in sorted(subsets) for rests in (False, True)])


def all_words(actions, most):
    """Yield the words of at most so many actions of a set, the shorter ones first."""
    check_actions(actions)
    check_length(most)
    layer = [()]
    yield ()
    for _ in range(most):
        layer = [word + (action,) for word in layer for action in actions]
        yield from layer
