"""What the tests of solved wishes share: plain slow ways to tell what can be kept.

A wish is a triple (offers, steps, goals), as in `wishing`. Nothing here calls the functions that are tested.
"""

import itertools

from tests.helpers import first_words, right_number
from tests.wishing import does_keep, table_of


def plain_good(wish, left, state):
    """The good offers of a left state, clause by clause as the document has them."""
    offers, steps, goals = wish
    return tuple(offer for offer in offers[state]
                 if all(steps[state][name] in left for name in offer[0]) and
                 all(offer in done or any(moves.get(name) for name in offer[0]) for done, moves in goals[state]))


def plain_reach(wish, left):
    """The goals of left states that are in reach, as pairs, by adding them until nothing changes."""
    offers, steps, goals = wish
    found = set()
    changed = True
    while changed:
        changed = False
        for state in left:
            for goal, (done, moves) in enumerate(goals[state]):
                if (state, goal) not in found and any(
                        offer in done or any((steps[state][name], behind) in found
                                             for name in offer[0] for behind in moves.get(name, ()))
                        for offer in plain_good(wish, left, state)):
                    found.add((state, goal))
                    changed = True
    return found


def plain_lost(wish, left):
    reach = plain_reach(wish, left)
    return tuple(state for state in sorted(left) if not plain_good(wish, left, state) or
                 any((state, goal) not in reach for goal in range(len(wish[2][state]))))


def plain_rounds(wish):
    left = set(range(len(wish[0])))
    found = []
    while plain_lost(wish, left):
        found.append(plain_lost(wish, left))
        left -= set(found[-1])
    return tuple(found)


def plain_good_offers(wish):
    """The good offers of all states behind the last round."""
    out = {state for row in plain_rounds(wish) for state in row}
    left = set(range(len(wish[0]))) - out
    return [plain_good(wish, left, state) if state in left else () for state in range(len(wish[0]))]


def plain_limited(wish, kept):
    """The tables with just these offers, and the states to which they lead by the order of their first words."""
    offers, steps, goals = wish
    names = [sorted({name for had, _ in row for name in had}) for row in kept]
    rows = [{name: steps[at][name] for name in names[at]} for at in range(len(offers))]
    best = first_words(rows)
    order = sorted(best, key=best.get)
    places = {state: at for at, state in enumerate(order)}
    return tuple(tuple(kept[state]) for state in order), \
        tuple({name: places[goal] for name, goal in rows[state].items()} for state in order), \
        tuple(tuple((tuple(offer for offer in done if offer in kept[state]),
                     {name: moves[name] for name in sorted(moves) if name in names[state]})
                    for done, moves in goals[state]) for state in order)


def plain_narrowed(wish):
    good = plain_good_offers(wish)
    return plain_limited(wish, good) if good and good[0] else ((), (), ())


def can_be_kept(wish):
    """Whether some part keeps a wish: whether the rounds leave its first state."""
    return bool(wish[0]) and bool(plain_good_offers(wish)[0])


def right_solve_paper(wish, value, part_class):
    if not isinstance(value, tuple) or len(value) != 2 or not isinstance(value[0], str):
        return False
    if value[0] == "part":
        return isinstance(value[1], part_class) and does_keep(table_of(value[1]), wish)
    if value[0] != "rounds" or not isinstance(value[1], tuple):
        return False
    if not wish[0]:
        return value[1] == ()
    left = set(range(len(wish[0])))
    for row in value[1]:
        if not isinstance(row, tuple) or not row:
            return False
        if not all(right_number(state, 0, len(wish[0]) - 1) for state in row) or list(row) != sorted(set(row)):
            return False
        if not set(row) <= set(plain_lost(wish, left)):
            return False
        left -= set(row)
    return 0 not in left


def with_word(wish, word, offer):
    """The tables of a wish whose parts keep a wish, have a word of good offers, and an offer after it."""
    offers, steps, goals = wish
    many = len(word) + 1
    rows, nexts, served = [], [], []
    state = 0
    for at, name in enumerate([*word, None]):
        kept = (offer,) if name is None else tuple(had for had in offers[state] if name in had[0])
        names = sorted({action for had, _ in kept for action in had})
        rows.append(kept)
        nexts.append({action: at + 1 if action == name else many + steps[state][action] for action in names})
        served.append(tuple((tuple(had for had in done if had in kept),
                             {action: moves[action] for action in sorted(moves) if action in names})
                            for done, moves in goals[state]))
        state = steps[state].get(name)
    return tuple(rows) + offers, tuple(nexts) + tuple({name: many + goal for name, goal in row.items()} for row in steps), \
        tuple(served) + goals


def small_tables_of(actions, states=2):
    """Tables of all parts with so many states, actions and all rests."""
    goals = [None, *range(states)]
    rows = [{name: goal for name, goal in zip(actions, row) if goal is not None}
            for row in itertools.product(goals, repeat=len(actions))]
    subsets = [rests for many in range(states + 1) for rests in itertools.combinations(range(states), many)]
    return list(itertools.product(itertools.product(rows, repeat=states), subsets))
