"""Parts: what they offer, which words they have, and parts that are made of parts."""

from whatparts.core.names import MAX_ACTIONS, MAX_LENGTH, are_new_names
from whatparts.core.names import ascends, check_length, is_name, is_number, is_set, is_word
from whatparts.core.tables import copied_steps, follow, least_rows, pair_table, word_table
from whatparts.errors import InvalidNumber, InvalidOperation, InvalidPart, TooMany

MAX_STATES = 8
MAX_WORDS = 40


class Part:
    """A part with the states 0, 1, .., of which 0 is the first. It never changes."""

    def __init__(self, steps, rests=()):
        if not _are_steps(steps):
            raise InvalidPart("steps are no tuple of one to eight dicts from names to states")
        if not _are_rests(rests, len(steps)):
            raise InvalidPart("rests are no ascending tuple of states")
        self._steps = copied_steps(steps)
        self._rests = rests

    @classmethod
    def of_words(cls, words, rests=()):
        """The least part with just these words and their beginnings, which rests after some of them."""
        if not _are_words(words):
            raise InvalidOperation("words are no tuple of at most forty words")
        steps, numbers = word_table(words)
        if not isinstance(rests, tuple) or not all([is_word(word) and word in numbers for word in rests]):
            raise InvalidOperation("rests are no tuple of words of the part")
        return _least_part((steps, [numbers[word] for word in rests]))

    @property
    def steps(self):
        """For each state a dict from its actions to the next states."""
        return copied_steps(self._steps)

    @property
    def rests(self):
        """The states in which the part rests."""
        return self._rests

    @property
    def actions(self):
        """The set of all names in the steps, also of states that no word reaches."""
        return tuple(sorted({action for row in self._steps for action in row}))

    @property
    def is_least(self):
        """Whether no alike part has fewer states, and the states are numbered by their first words."""
        return self.least() == self

    def offer(self, state):
        """The offer in a state."""
        if not is_number(state, 0, len(self._steps) - 1):
            raise InvalidNumber(state)
        return tuple(self._steps[state]), state in self._rests

    def after(self, word):
        """The state to which a word leads, or None if it is no word of the part."""
        if not is_word(word):
            raise InvalidOperation("this is no tuple of names")
        return follow(self._steps, word)

    def words(self, most):
        """Yield the words of the part with at most so many actions, the shorter ones first."""
        check_length(most)
        layer = [((), 0)]
        yield ()
        for _ in range(most):
            layer = [(word + (name,), goal) for word, at in layer for name, goal in self._steps[at].items()]
            yield from [word for word, _ in layer]

    def least(self):
        """The alike part with the fewest states, in the order of the first words that lead to them."""
        return _least_part((self._steps, self._rests))

    def renamed(self, names):
        """The part with other names for its actions."""
        if not are_new_names(names, self.actions):
            raise InvalidOperation("names are no dict from just the actions to different names")
        return make_part([{names[old]: row[old] for old in row} for row in self._steps], self._rests)

    def without(self, names):
        """The part without steps by these actions."""
        if not is_set(names):
            raise InvalidOperation("names are no set of names")
        rows = [{name: row[name] for name in row if name not in names} for row in self._steps]
        return make_part(rows, self._rests)

    def __and__(self, other):
        check_part(other)
        return _least_part(pair_table((self._steps, self._rests), (other._steps, other._rests), True))

    def __or__(self, other):
        check_part(other)
        if len(set(self.actions) | set(other.actions)) > MAX_ACTIONS:
            raise TooMany(MAX_ACTIONS)
        return _least_part(pair_table((self._steps, self._rests), (other._steps, other._rests), False))

    def __contains__(self, value):
        return is_word(value) and follow(self._steps, value) is not None

    def __getitem__(self, word):
        if word not in self:
            raise InvalidOperation("this is no word of the part")
        return self.offer(follow(self._steps, word))

    def __iter__(self):
        raise TypeError("a part cannot be iterated over")

    def __len__(self):
        return len(self._steps)

    def __eq__(self, other):
        return isinstance(other, Part) and self._steps == other._steps and self._rests == other._rests

    def __str__(self):
        return f"part of {len(self._steps)} states, {len(self.actions)} actions"


def check_part(value):
    """Raise InvalidPart for what is no part."""
    if not isinstance(value, Part):
        raise InvalidPart("this is no part")


def make_part(steps, rests):
    """The part with these steps and rests, which may have more than eight states."""
    part = Part(({},))
    part._steps = copied_steps(steps)
    part._rests = tuple(rests)
    return part


def _least_part(table):
    """The least part with the words and offers of a table."""
    steps, rests = table
    rows, states = least_rows(steps, [state in rests for state in range(len(steps))])
    return make_part(rows, [at for at, state in enumerate(states) if state in rests])


def _are_steps(steps):
    """Whether these are steps that a caller may pass."""
    if not isinstance(steps, tuple) or not 1 <= len(steps) <= MAX_STATES:
        return False
    if not all([_is_row(row, len(steps)) for row in steps]):
        return False
    return len({name for row in steps for name in row}) <= MAX_ACTIONS


def _is_row(row, many):
    """Whether this is a dict from names to some of so many states."""
    if not isinstance(row, dict):
        return False
    return all([is_name(name) and is_number(state, 0, many - 1) for name, state in row.items()])


def _are_rests(rests, many):
    """Whether this is an ascending tuple of some of so many states."""
    if not isinstance(rests, tuple) or not all([is_number(state, 0, many - 1) for state in rests]):
        return False
    return ascends(rests)


def _are_words(words):
    """Whether this is a tuple of at most forty words, not too long and with few enough actions."""
    if not isinstance(words, tuple) or len(words) > MAX_WORDS:
        return False
    if not all([is_word(word) and len(word) <= MAX_LENGTH for word in words]):
        return False
    return len({name for word in words for name in word}) <= MAX_ACTIONS
