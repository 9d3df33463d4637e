"""Wishes solved: which of their states can be kept, and parts that keep them."""

from whatparts.core.names import ascends, is_number
from whatparts.core.parts import Part, make_part
from whatparts.errors import InvalidNumber, TooMany
from whatparts.want.keeping import keeps
from whatparts.want.wishes import Wish, check_wish, limited_goals, names_in, reached_wish

MAX_SERVED = 6


class Rounds:
    """A wish, of which some states are left.

    What is left is a dict with these states as its keys, good offers are a dict from left states,
    and a spot is a pair of a state and the index of one of its goals.
    """

    def __init__(self, wish):
        self._allowed = wish.offers
        self._nexts = wish.steps
        self._goals = wish.goals

    def all_left(self):
        """What is left at first: all states."""
        return {state: True for state in range(len(self._allowed))}

    def good(self, left):
        """The good offers of each left state."""
        return {
            state: tuple([offer for offer in self._allowed[state] if self._is_good(state, offer, left)])
            for state in left
        }

    def lost(self, left):
        """The left states that are lost, ascending."""
        good = self.good(left)
        near = self.distances(good)
        return tuple([
            state for state in sorted(left)
            if not good[state] or not all([(state, goal) in near for goal in range(len(self._goals[state]))])
        ])

    def distances(self, good):
        """For each spot in reach the least number of steps to a good offer that does its goal."""
        ahead = self._spots_ahead(good)
        near = {}
        layer = [
            (state, goal) for state in good for goal, (done, _) in enumerate(self._goals[state])
            if any([offer in done for offer in good[state]])
        ]
        many = 0
        while layer:
            for spot in layer:
                near[spot] = many
            layer = sorted({spot for target in layer for spot in ahead.get(target, []) if spot not in near})
            many += 1
        return near

    def _is_good(self, state, offer, left):
        """Whether an offer leads to left states alone, and does or moves each goal."""
        names, _ = offer
        if not all([self._nexts[state][name] in left for name in names]):
            return False
        return all([offer in done or any([name in moves for name in names]) for done, moves in self._goals[state]])

    def _spots_ahead(self, good):
        """For each spot those whose goals move to it by an action of a good offer."""
        found = {}
        for state in good:
            names = names_in(good[state])
            for goal, (_, moves) in enumerate(self._goals[state]):
                for name in moves:
                    if name in names:
                        for behind in moves[name]:
                            found.setdefault((self._nexts[state][name], behind), []).append((state, goal))
        return found


class Turns:
    """A wish with good offers alone, and a part that serves the goals of each state in turn.

    A state of the part is a state of the wish with all its goals in a row. Its offer brings the goal
    at the head of the row nearer, and the others move on behind it. No goal falls back in the row,
    and the one at the head is done in the end, so each one comes to the head, or is done before.
    """

    def __init__(self, wish):
        self._choices = wish.offers
        self._nexts = wish.steps
        self._goals = wish.goals
        self._near = Rounds(wish).distances({state: offers for state, offers in enumerate(wish.offers)})
        self._ways = {}

    def part(self):
        """The part."""
        order = [self._with_all(0, [])]
        numbers = {order[0]: 0}
        steps, rests = [], []
        while len(steps) < len(order):
            state, row = order[len(steps)]
            offer = self._best_offer(state, row)
            if offer[1]:
                rests.append(len(steps))
            targets = self._targets(state, row, offer)
            for target in targets.values():
                if target not in numbers:
                    numbers[target] = len(order)
                    order.append(target)
            steps.append({name: numbers[targets[name]] for name in targets})
        return make_part(steps, rests)

    def _with_all(self, state, row):
        """The state with these of its goals in a row, and the others behind them."""
        return state, (*row, *[goal for goal in range(len(self._goals[state])) if goal not in row])

    def _best_offer(self, state, row):
        """The offer from which the goal at the head of the row can be done soonest."""
        offers = self._choices[state]
        if not row:
            return offers[0]
        many = [self._way(state, row[0], offer)[0] for offer in offers]
        return offers[many.index(min(many))]

    def _targets(self, state, row, offer):
        """The next states of the part for the actions of its offer."""
        moved = {name: [] for name in offer[0]}
        for goal in row:
            _, name, behind = self._way(state, goal, offer)
            if name is not None and behind not in moved[name]:
                moved[name].append(behind)
        return {name: self._with_all(self._nexts[state][name], moved[name]) for name in moved}

    def _way(self, state, goal, offer):
        """How soon a goal can be done from an offer, and by which action it then moves to which goal."""
        key = (state, goal, offer)
        if key not in self._ways:
            self._ways[key] = self._found_way(state, goal, offer)
        return self._ways[key]

    def _found_way(self, state, goal, offer):
        """The triple of `_way`, with None for a goal that the offer does."""
        done, moves = self._goals[state][goal]
        if offer in done:
            return 0, None, None
        return min([
            (self._near[(self._nexts[state][name], behind)] + 1, name, behind)
            for name in offer[0] if name in moves for behind in moves[name]
        ])


def rounds(wish):
    """The states that each round rules out."""
    check_wish(wish)
    return tuple(_solved(wish)[0])


def good_offers(wish, state):
    """The offers of a state that are good behind the last round."""
    check_wish(wish)
    if not is_number(state, 0, len(wish) - 1):
        raise InvalidNumber(state)
    return every_good_offer(wish)[state]


def narrowed(wish):
    """The wish with the good offers alone, which the same parts keep; without states if no part does."""
    check_wish(wish)
    good = every_good_offer(wish)
    if wish.is_empty or not good[0]:
        return Wish((), ())
    return limited_wish(wish, good)


def find_part(wish):
    """A part that keeps the wish with actions of the wish alone, or None."""
    best = narrowed(wish)
    if best.is_empty:
        return None
    check_served(best)
    return Turns(best).part()


def solve_paper(wish):
    """A paper that shows that some part keeps the wish, or that none does."""
    part = find_part(wish)
    if part is None:
        return "rounds", rounds(wish)
    return "part", part


def is_solve_paper(wish, value):
    """Whether the value is a right paper about a wish."""
    check_wish(wish)
    if not isinstance(value, tuple) or len(value) != 2:
        return False
    if value[0] == "part":
        return isinstance(value[1], Part) and keeps(value[1], wish)
    return value[0] == "rounds" and _are_rows(value[1], len(wish)) and _is_ruled_out(wish, value[1])


def every_good_offer(wish):
    """For each state the offers that are good behind the last round."""
    _, good = _solved(wish)
    return [good.get(state, ()) for state in range(len(wish))]


def limited_wish(wish, offers):
    """The wish with just these of its offers for each state, and the states to which they lead."""
    steps = [{name: row[name] for name in names_in(offers[at])} for at, row in enumerate(wish.steps)]
    return reached_wish(offers, steps, [limited_goals(row, offers[at]) for at, row in enumerate(wish.goals)])


def check_served(wish):
    """Raise TooMany if a state has more goals than are served in turn."""
    if any([len(row) > MAX_SERVED for row in wish.goals]):
        raise TooMany(MAX_SERVED)


def _solved(wish):
    """What each round rules out, and the good offers of the states that are left behind the last one."""
    trial = Rounds(wish)
    left = trial.all_left()
    found = []
    lost = trial.lost(left)
    while lost:
        found.append(lost)
        left = {state: True for state in left if state not in lost}
        lost = trial.lost(left)
    return found, trial.good(left)


def _are_rows(value, many):
    """Whether this is a tuple of ascending tuples of some of so many states, none of which is empty."""
    if not isinstance(value, tuple) or not all([isinstance(row, tuple) and len(row) > 0 for row in value]):
        return False
    if not all([is_number(state, 0, many - 1) for row in value for state in row]):
        return False
    return all([ascends(row) for row in value])


def _is_ruled_out(wish, rows):
    """Whether the states of each row are lost without those ahead of it, and the first state is among them."""
    trial = Rounds(wish)
    left = trial.all_left()
    for row in rows:
        lost = trial.lost(left)
        if not all([state in lost for state in row]):
            return False
        left = {state: True for state in left if state not in row}
    return 0 not in left
