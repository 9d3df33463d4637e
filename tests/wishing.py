"""What the tests of wishes share: wishes, and plain slow ways to tell what they ask for.

A table of a part is a pair (steps, rests), one of a wish a triple (offers, steps, goals). Nothing here
calls the functions that are tested, except to make parts and wishes as values.
"""

import itertools
import random

from tests.helpers import lead, offer_in, right_number, right_offer, right_word
from whatparts.core.parts import Part
from whatparts.want.wishes import Wish

LEFT = (("l",), False)
RIGHT = (("r",), False)


def turns():
    """The wish ONE of the document."""
    return Wish((((("put",), True),), ((("take",), False),)), ({"put": 1}, {"take": 0}))


def few():
    return Wish(((((), True), (("a",), False)),), ({"a": 0},), lively=True)


def two():
    return Wish.of(((LEFT, RIGHT),), ({"l": 0, "r": 0},), ((((LEFT,), {"r": (0,)}), ((RIGHT,), {"l": (1,)})),))


def table_of(part):
    return part.steps, part.rests


def tables_of(wish):
    return wish.offers, wish.steps, wish.goals


def every_offer(actions):
    return sorted((names, rests) for many in range(len(actions) + 1)
                  for names in itertools.combinations(sorted(actions), many) for rests in (False, True))


def some_wish(source, actions, states, most_goals=4):
    """Offers, steps and goals that fit."""
    every = every_offer(actions)
    offers = tuple(tuple(sorted(source.sample(every, min(len(every), source.choice((0, 1, 2, 3, 5, 9))))))
                   if source.random() < 0.1 else tuple(sorted(source.sample(every, source.randint(1, len(every)))))
                   for _ in range(states))
    steps = tuple({name: source.randrange(states) for name in sorted({name for names, _ in row for name in names})}
                  for row in offers)
    counts = [source.choice((0, 1, 1, 2, most_goals)) if most_goals else 0 for _ in range(states)]
    counts = [min(count, most_goals) for count in counts]
    goals = tuple(tuple(some_goal(source, offers[at], steps[at], counts) for _ in range(counts[at]))
                  for at in range(states))
    return offers, steps, goals


def some_goal(source, offers, steps, counts):
    done = tuple(offer for offer in offers if source.random() < 0.3)
    moves = {}
    for name, state in steps.items():
        goals = tuple(goal for goal in range(counts[state]) if source.random() < 0.6)
        if goals:
            moves[name] = goals
    return done, moves


def some_wishes(many, actions="abc", seed=1, most_goals=4):
    """Offers, steps and goals of up to eight states, the same ones at each run."""
    source = random.Random(seed)
    return [some_wish(source, actions[:source.randint(1, len(actions))], source.choice((1, 2, 3, 5, 8)), most_goals)
            for _ in range(many)]


def picked_part(source, wish):
    """Steps and rests that have an allowed offer after each word, as far as there is one."""
    offers, steps, _ = wish
    copies = source.choice((1, 2)) if len(offers) <= 4 else 1
    rows, rests = [], []
    for state in range(copies * len(offers)):
        names, resting = source.choice(offers[state % len(offers)] or (((), False),))
        rows.append({name: steps[state % len(offers)][name] + len(offers) * source.randrange(copies) for name in names})
        rests += [state] if resting else []
    return tuple(rows), tuple(rests)


def some_pairs(many, actions="abc", seed=1, most_goals=4):
    """Tables of parts beside tables of wishes, of which a fair share keeps its wish."""
    source = random.Random(seed)
    found = []
    for wish in some_wishes(many, actions, seed, most_goals):
        found.append((picked_part(source, wish), wish))
        found.append((picked_part(source, wish), wish))
        steps = tuple({name: source.randrange(3) for name in actions if source.random() < 0.3} for _ in range(3))
        found.append(((steps, tuple(sorted(source.sample(range(3), 2)))), wish))
    return found


def reached_pairs(table, wish):
    """The pairs of states after all words of a part that a wish follows."""
    if not wish[0]:
        return set()
    found = {(0, 0)}
    todo = [(0, 0)]
    while todo:
        p, q = todo.pop()
        for name, goal in table[0][p].items():
            if name in wish[1][q] and (goal, wish[1][q][name]) not in found:
                found.add((goal, wish[1][q][name]))
                todo.append((goal, wish[1][q][name]))
    return found


def served_spots(table, wish):
    """All (p, q, goal) that are served, by adding them until nothing changes."""
    found = set()
    spots = [(p, q, goal) for p, q in reached_pairs(table, wish) for goal in range(len(wish[2][q]))]
    changed = True
    while changed:
        changed = False
        for p, q, goal in spots:
            done, moves = wish[2][q][goal]
            if (p, q, goal) not in found and (offer_in(*table, p) in done or any(
                    (table[0][p][name], wish[1][q][name], at) in found
                    for name in table[0][p] for at in moves.get(name, ()))):
                found.add((p, q, goal))
                changed = True
    return found


def all_allowed(table, wish):
    return bool(wish[0]) and all(offer_in(*table, p) in wish[0][q] for p, q in reached_pairs(table, wish))


def does_keep(table, wish):
    served = served_spots(table, wish)
    return all_allowed(table, wish) and all(
        (p, q, goal) in served for p, q in reached_pairs(table, wish) for goal in range(len(wish[2][q])))


def right_paper(table, wish, value):
    """Whether the value is a right paper, clause by clause as the document has them."""
    if not isinstance(value, tuple) or not value or not isinstance(value[0], str):
        return False
    if not wish[0]:
        return len(value) == 2 and value == ("offer", ()) and isinstance(value[1], tuple)
    if value[0] == "kept" and len(value) == 2:
        return right_table(table, wish, value[1])
    if value[0] == "offer" and len(value) == 2 and right_word(value[1]):
        p, q = lead(table[0], value[1]), lead(wish[1], value[1])
        return p is not None and q is not None and offer_in(*table, p) not in wish[0][q]
    if value[0] == "goal" and len(value) == 3 and right_word(value[1]):
        p, q = lead(table[0], value[1]), lead(wish[1], value[1])
        return p is not None and q is not None and right_number(value[2], 0, len(wish[2][q]) - 1) and \
            all_allowed(table, wish) and (p, q, value[2]) not in served_spots(table, wish)
    return False


def right_table(table, wish, rows):
    if not isinstance(rows, dict) or (0, 0) not in rows:
        return False
    for pair, row in rows.items():
        if not isinstance(pair, tuple) or len(pair) != 2 or not isinstance(row, tuple):
            return False
        if not right_number(pair[0], 0, len(table[0]) - 1) or not right_number(pair[1], 0, len(wish[0]) - 1):
            return False
        if len(row) != len(wish[2][pair[1]]) or not all(right_number(number, 0, 10 ** 50) for number in row):
            return False
    return all(right_row(table, wish, rows, p, q) for p, q in rows)


def right_row(table, wish, rows, p, q):
    offer = offer_in(*table, p)
    if offer not in wish[0][q]:
        return False
    behind = {name: (table[0][p][name], wish[1][q][name]) for name in offer[0]}
    if not all(pair in rows for pair in behind.values()):
        return False
    for (done, moves), number in zip(wish[2][q], rows[p, q]):
        smaller = any(rows[behind[name]][goal] < number for name in offer[0] for goal in moves.get(name, ()))
        if not (offer in done if number == 0 else smaller):
            return False
    return True


def right_wish(wish):
    """Whether an object tells tables that fit, in the order that the document has, of whatever size."""
    offers, steps, goals = tables_of(wish)
    if not all(isinstance(value, tuple) for value in (offers, steps, goals)):
        return False
    if len(offers) != len(steps) or len(offers) != len(goals):
        return False
    for state, row in enumerate(offers):
        if not right_offers(row) or not isinstance(steps[state], dict) or not isinstance(goals[state], tuple):
            return False
        if list(steps[state]) != sorted({name for names, _ in row for name in names}):
            return False
        if not all(right_number(goal, 0, len(offers) - 1) for goal in steps[state].values()):
            return False
        if not all(right_goal(goal, row, steps[state], goals) for goal in goals[state]):
            return False
    return True


def right_offers(row):
    return isinstance(row, tuple) and all(right_offer(offer) for offer in row) and list(row) == sorted(set(row))


def right_goal(goal, offers, steps, goals):
    if not isinstance(goal, tuple) or len(goal) != 2 or not right_offers(goal[0]) or not isinstance(goal[1], dict):
        return False
    if not set(goal[0]) <= set(offers) or list(goal[1]) != sorted(set(goal[1]) & set(steps)):
        return False
    return all(isinstance(row, tuple) and row and list(row) == sorted(set(row)) and
               all(right_number(index, 0, len(goals[steps[name]]) - 1) for index in row)
               for name, row in goal[1].items())


def part_of(table):
    return Part(*table)


def wish_of(tables):
    return Wish.of(*tables)
