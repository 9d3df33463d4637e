"""Wishes: which offers they allow after each word, and which goals must stay within reach."""

from whatparts.core.names import MAX_ACTIONS, all_offers, are_new_names, ascends, is_number, is_offer, is_word
from whatparts.core.parts import MAX_STATES
from whatparts.core.tables import copied_steps, follow, reached, walk_both
from whatparts.errors import InvalidOperation, InvalidWish

MAX_GOALS = 4


class Wish:
    """A wish with the states 0, 1, .., of which 0 is the first; there may be none. It never changes."""

    def __init__(self, offers, steps, *, lively=False):
        if not _are_offers(offers):
            raise InvalidWish("offers are no tuple of at most eight ascending tuples of offers")
        if not _are_steps(steps, offers):
            raise InvalidWish("steps are no tuple of dicts from just the actions of the offers to states")
        if not isinstance(lively, bool):
            raise InvalidOperation("lively is no boolean")
        none = tuple([() for _ in offers])
        self._offers = offers
        self._steps = copied_steps(steps)
        self._goals = _with_lively(offers, steps, none) if lively else none

    @classmethod
    def of(cls, offers, steps, goals):
        """The wish with these goals."""
        wish = cls(offers, steps)
        if not _are_goals(goals, offers, steps):
            raise InvalidWish("goals are no tuple of tuples of at most four goals that fit")
        wish._goals = _copied_goals(goals)
        return wish

    @property
    def offers(self):
        """For each state its allowed offers."""
        return self._offers

    @property
    def steps(self):
        """For each state a dict from the actions of its allowed offers to the next states."""
        return copied_steps(self._steps)

    @property
    def goals(self):
        """For each state its goals, as pairs of the offers that do it and of a dict of its moves."""
        return _copied_goals(self._goals)

    @property
    def actions(self):
        """The set of all actions of allowed offers, also of states that no word reaches."""
        return tuple(sorted({action for row in self._steps for action in row}))

    @property
    def has_goals(self):
        """Whether a state has a goal."""
        return any([len(row) > 0 for row in self._goals])

    @property
    def is_empty(self):
        """Whether the wish has no states."""
        return len(self._offers) == 0

    def after(self, word):
        """The state to which the wish follows a word, or None if it does not."""
        if not is_word(word):
            raise InvalidOperation("this is no tuple of names")
        return None if self.is_empty else follow(self._steps, word)

    def allows(self, word, offer):
        """Whether the wish follows the word and allows the offer there."""
        state = self.after(word)
        if not is_offer(offer):
            raise InvalidOperation("this is no offer")
        return state is not None and offer in self._offers[state]

    def lively(self):
        """The wish with one more goal in each state: to come to rest."""
        return make_wish(self._offers, self._steps, _with_lively(self._offers, self._steps, self._goals))

    def without_goals(self):
        """The wish with the same offers and steps alone."""
        return make_wish(self._offers, self._steps, [() for _ in self._offers])

    def renamed(self, names):
        """The wish with other names for its actions."""
        if not are_new_names(names, self.actions):
            raise InvalidOperation("names are no dict from just the actions to different names")
        offers = [_renamed_offers(row, names) for row in self._offers]
        steps = [_renamed_keys(row, names) for row in self._steps]
        goals = [
            tuple([(_renamed_offers(done, names), _renamed_keys(moves, names)) for done, moves in row])
            for row in self._goals
        ]
        return make_wish(offers, steps, goals)

    def __and__(self, other):
        check_wish(other)
        if self.is_empty or other.is_empty:
            return Wish((), ())
        pairs, _ = walk_both(self._steps, other._steps)
        numbers = {pair: at for at, pair in enumerate(pairs)}
        offers = [[offer for offer in self._offers[p] if offer in other._offers[q]] for p, q in pairs]
        steps = [
            {name: numbers[(self._steps[p][name], other._steps[q][name])] for name in names_in(offers[at])}
            for at, (p, q) in enumerate(pairs)
        ]
        goals = [
            limited_goals(self._goals[p], offers[at]) + limited_goals(_moved_on(self, other, p, q), offers[at])
            for at, (p, q) in enumerate(pairs)
        ]
        return reached_wish(offers, steps, goals)

    def __len__(self):
        return len(self._offers)

    def __eq__(self, other):
        if not isinstance(other, Wish):
            return False
        return self._offers == other._offers and self._steps == other._steps and self._goals == other._goals

    def __str__(self):
        offers = sum([len(row) for row in self._offers])
        goals = sum([len(row) for row in self._goals])
        return f"wish of {len(self._offers)} states, {offers} offers, {goals} goals"


def free_wish(actions):
    """The wish with one state that allows all offers with actions of a set of at most four names."""
    offers = all_offers(actions)
    return Wish((offers,), ({action: 0 for action in actions},))


def check_wish(value):
    """Raise InvalidWish for what is no wish."""
    if not isinstance(value, Wish):
        raise InvalidWish("this is no wish")


def make_wish(offers, steps, goals):
    """The wish with these states, which may be more than eight, and may have more than four goals."""
    wish = Wish((), ())
    wish._offers = tuple([tuple(row) for row in offers])
    wish._steps = copied_steps(steps)
    wish._goals = _copied_goals(goals)
    return wish


def reached_wish(offers, steps, goals):
    """The wish with just those of some states that words reach, in the order of the first words that do."""
    order = reached(steps)
    numbers = {state: at for at, state in enumerate(order)}
    rows = [{name: numbers[steps[state][name]] for name in steps[state]} for state in order]
    return make_wish([offers[state] for state in order], rows, [goals[state] for state in order])


def _with_lively(offers, steps, goals):
    """The goals of each state, and behind them one more: to come to rest."""
    more = []
    for at, row in enumerate(offers):
        resting = tuple([offer for offer in row if offer[1]])
        moves = {name: (len(goals[state]),) for name, state in steps[at].items()}
        more.append((*goals[at], (resting, moves)))
    return tuple(more)


def limited_goals(goals, offers):
    """The goals of a state as far as some of its offers do them, and by their actions alone."""
    names = names_in(offers)
    return tuple([
        (tuple([offer for offer in done if offer in offers]), {name: moves[name] for name in moves if name in names})
        for done, moves in goals
    ])


def _moved_on(one, other, p, q):
    """The goals of a state of the second wish, with its indices counted behind the goals of the first one."""
    found = []
    for done, moves in other._goals[q]:
        shifted = {}
        for name in moves:
            # Without a next state in the first wish, no offer that both allow has this action.
            if name in one._steps[p]:
                before = len(one._goals[one._steps[p][name]])
                shifted[name] = tuple([before + goal for goal in moves[name]])
        found.append((done, shifted))
    return found


def names_in(offers):
    """The set of all actions of some offers."""
    return tuple(sorted({name for names, _ in offers for name in names}))


def _renamed_offers(offers, names):
    """Offers with other names for their actions, ascending."""
    return tuple(sorted([(tuple(sorted([names[old] for old in had])), rests) for had, rests in offers]))


def _renamed_keys(row, names):
    """The same values by other names."""
    return {names[old]: row[old] for old in row}


def _copied_goals(goals):
    """The same goals with moves in new dicts with ascending keys."""
    return tuple([
        tuple([(done, {name: moves[name] for name in sorted(moves)}) for done, moves in row]) for row in goals
    ])


def _are_offers(offers):
    """Whether these are allowed offers that a caller may pass."""
    if not isinstance(offers, tuple) or len(offers) > MAX_STATES:
        return False
    if not all([_is_row_of_offers(row) for row in offers]):
        return False
    return len({name for row in offers for names, _ in row for name in names}) <= MAX_ACTIONS


def _is_row_of_offers(row):
    """Whether this is an ascending tuple of offers."""
    return isinstance(row, tuple) and all([is_offer(offer) for offer in row]) and ascends(row)


def _are_steps(steps, offers):
    """Whether this is a tuple of dicts from just the actions of the allowed offers to states."""
    if not isinstance(steps, tuple) or len(steps) != len(offers):
        return False
    return all([_is_row_of_steps(row, names_in(offers[at]), len(offers)) for at, row in enumerate(steps)])


def _is_row_of_steps(row, names, many):
    """Whether this is a dict from just these names to some of so many states."""
    if not isinstance(row, dict) or len(row) != len(names):
        return False
    return all([name in row and is_number(row[name], 0, many - 1) for name in names])


def _are_goals(goals, offers, steps):
    """Whether this is a tuple of tuples of at most four goals that fit."""
    if not isinstance(goals, tuple) or len(goals) != len(offers):
        return False
    if not all([isinstance(row, tuple) and len(row) <= MAX_GOALS for row in goals]):
        return False
    for at, row in enumerate(goals):
        counts = {name: len(goals[state]) for name, state in steps[at].items()}
        if not all([_is_goal(goal, offers[at], counts) for goal in row]):
            return False
    return True


def _is_goal(goal, offers, counts):
    """Whether this is a goal of a state, where counts tells the number of goals behind each action."""
    if not isinstance(goal, tuple) or len(goal) != 2:
        return False
    done, moves = goal
    if not _is_row_of_offers(done) or not all([offer in offers for offer in done]):
        return False
    if not isinstance(moves, dict):
        return False
    return all([name in counts and _is_row_of_indices(moves[name], counts[name]) for name in moves])


def _is_row_of_indices(row, many):
    """Whether this is an ascending tuple of at least one of the numbers below this."""
    if not isinstance(row, tuple) or len(row) == 0:
        return False
    return all([is_number(index, 0, many - 1) for index in row]) and ascends(row)
