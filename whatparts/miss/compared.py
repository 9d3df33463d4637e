"""Wishes compared by the parts that keep them, and parts that have most or make the difference."""

from whatparts.core.parts import Part
from whatparts.core.tables import least_rows, walk_both, word_to
from whatparts.errors import InvalidOperation, TooMany
from whatparts.miss.solved import check_served, every_good_offer, find_part, limited_wish, narrowed
from whatparts.want.keeping import keeps
from whatparts.want.wishes import check_wish, limited_goals, make_wish, names_in

MAX_CHASED = 200


class Chases:
    """The chases of the goals of a wish by parts that keep another one, which has good offers alone."""

    def __init__(self, best, other):
        self._kept = best.offers
        self._kept_steps = best.steps
        self._steps = other.steps
        self._goals = other.goals
        self._copies = {}

    def starts(self, pair):
        """The first chase of each goal in a pair."""
        p, q = pair
        return [(p, q, (goal,)) for goal in range(len(self._goals[q]))]

    def all_from(self, start):
        """The chases of a goal, its first one at the head."""
        order = [start]
        seen = {start: True}
        at = 0
        while at < len(order):
            _, _, turns = self.copied(order[at])
            for chase in turns.values():
                if chase not in seen:
                    seen[chase] = True
                    order.append(chase)
            if len(order) > MAX_CHASED:
                raise TooMany(MAX_CHASED)
            at += 1
        return order

    def copied(self, chase):
        """The state of the first wish, its offers that do none of the goals, and the chases behind some actions."""
        if chase not in self._copies:
            p, q, goals = chase
            rows = [self._goals[q][goal] for goal in goals]
            offers = [offer for offer in self._kept[p] if not any([offer in done for done, _ in rows])]
            turns = {}
            for name in names_in(offers):
                moved = sorted({goal for _, moves in rows for goal in moves.get(name, ())})
                if moved:
                    turns[name] = (self._kept_steps[p][name], self._steps[q][name], tuple(moved))
            self._copies[chase] = (p, offers, turns)
        return self._copies[chase]

    def copies(self, chases, ahead):
        """The copies of some chases for `_with_copies`, where so many copies stand ahead of them."""
        numbers = {chase: ahead + at for at, chase in enumerate(chases)}
        found = []
        for chase in chases:
            state, offers, turns = self.copied(chase)
            found.append((state, offers, {name: numbers[turns[name]] for name in turns}))
        return found


def is_within(one, other):
    """Whether each part that keeps the first wish keeps the other one, too."""
    return _parting_wish(one, other) is None


def are_same(one, other):
    """Whether the same parts keep both wishes."""
    return is_within(one, other) and is_within(other, one)


def parting_part(one, other):
    """A part that keeps the first wish and not the other one, or None."""
    wish = _parting_wish(one, other)
    if wish is None:
        return None
    check_served(narrowed(one))
    return find_part(wish)


def is_parting(one, other, value):
    """Whether the value is a part that keeps the first wish and not the other one."""
    check_wish(one)
    check_wish(other)
    return isinstance(value, Part) and keeps(value, one) and not keeps(value, other)


def least_wish(wish):
    """The wish with the fewest states among those with good offers alone that the same parts keep."""
    check_wish(wish)
    if wish.has_goals:
        raise InvalidOperation("the wish has goals")
    best = narrowed(wish)
    if best.is_empty:
        return best
    rows, states = least_rows(best.steps, best.offers)
    return make_wish([best.offers[state] for state in states], rows, [() for _ in states])


def full_wish(wish):
    """The wish that is kept by just the parts that keep this one and have all words of all of them."""
    best = narrowed(wish)
    if best.is_empty:
        return best
    return limited_wish(best, [[offer for offer in row if offer[0] == names_in(row)] for row in best.offers])


def freest_part(wish):
    """A part that keeps the wish and has all words of all parts that do, or None."""
    return find_part(full_wish(wish))


def part_offering(wish, word, offer):
    """A part that keeps the wish, and that has this word of good offers and then this good offer."""
    best = narrowed(wish)
    return find_part(_offering(best, word, offer))


def _parting_wish(one, other):
    """A wish of which each part keeps the first wish and not the other one, or None if there is no such part."""
    best = narrowed(one)
    check_wish(other)
    if best.is_empty:
        return None
    if other.is_empty:
        return best
    pairs, came = walk_both(best.steps, other.steps)
    for at, (p, q) in enumerate(pairs):
        for offer in best.offers[p]:
            if offer not in other.offers[q]:
                return _offering(best, word_to(came, at), offer)
    chases = Chases(best, other)
    start = _followed(best, chases, pairs)
    if start is None:
        return None
    word = word_to(came, pairs.index(start[:2]))
    return _with_copies(best, _along(best, word) + chases.copies(chases.all_from(start), len(word)))


def _followed(best, chases, pairs):
    """The first chase of a goal that a part can go on with for ever, or None."""
    starts = [start for pair in pairs for start in chases.starts(pair)]
    found = {}
    for start in starts:
        for chase in chases.all_from(start):
            found[chase] = True
    order = list(found)
    # Parts that go on with a chase keep a wish that begins with it, so rounds tell whether there are any.
    good = every_good_offer(_with_copies(best, chases.copies(order, 0)))
    able = {chase: True for at, chase in enumerate(order) if good[at]}
    for start in starts:
        if start in able:
            return start
    return None


def _offering(best, word, offer):
    """A wish with good offers alone, for parts that have a word and then this offer."""
    copies = _along(best, word)
    return _with_copies(best, [*copies, (best.after(word), [offer], {})])


def _along(best, word):
    """Copies of the states along a word, with those of their offers that have the next action of the word."""
    states = [best.after(word[:length]) for length in range(len(word))]
    offers = best.offers
    return [
        (state, [offer for offer in offers[state] if word[at] in offer[0]], {word[at]: at + 1})
        for at, state in enumerate(states)
    ]


def _with_copies(wish, copies):
    """The wish that has copies of some of its states ahead of them.

    A copy is a triple of the state, those of its offers that are allowed, and a dict from the actions
    that lead to copies to their places. All other actions lead to states of the wish.
    """
    many = len(copies)
    steps, goals = wish.steps, wish.goals
    more = [
        {name: turns.get(name, many + steps[state][name]) for name in names_in(offers)}
        for state, offers, turns in copies
    ]
    rows = [{name: many + row[name] for name in row} for row in steps]
    served = [limited_goals(goals[state], offers) for state, offers, _ in copies]
    return make_wish([offers for _, offers, _ in copies] + list(wish.offers), more + rows, served + list(goals))
