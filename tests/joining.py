"""What the tests of joints share: joints, and plain slow ways to tell what their wholes do.

The tables of a joint are a triple (slots, rules, rests). Nothing here calls the functions that are
tested, except to make joints as values.
"""

import itertools
import random

from tests.helpers import first_words, right_name, right_number, right_set
from whatparts.glue.joints import Joint


def belt():
    return Joint({"left": ("get", "put"), "right": ("take",)},
                 ({"put": ({"left": "put"}, 0), "take": ({"left": "get", "right": "take"}, 0)},), (("left",),))


def tables_of_joint(joint):
    return joint.slots, joint.rules, joint.rests


def some_joint(source, names=("in", "left", "right"), inner="abc", outer="wxyz", full=False):
    """Slots, rules and rests that fit."""
    slots = {name: tuple(sorted(source.sample(inner, len(inner) if full else source.randint(0, len(inner)))))
             for name in sorted(source.sample(names, source.randint(1, len(names))))}
    modes = source.choice((1, 1, 2, 3, 4))
    actions = source.sample(outer, source.randint(1, len(outer)))
    rules = tuple({action: (some_needs(source, slots), source.randrange(modes))
                   for action in sorted(actions) if source.random() < 0.8} for _ in range(modes))
    rests = tuple(None if source.random() < 0.2 else
                  tuple(slot for slot in slots if source.random() < 0.5) for _ in range(modes))
    return slots, rules, rests


def some_needs(source, slots):
    return {slot: source.choice(actions) for slot, actions in slots.items() if actions and source.random() < 0.5}


def some_joints(many, seed=1, **more):
    """Slots, rules and rests of up to three slots and four modes, the same ones at each run."""
    source = random.Random(seed)
    return [some_joint(source, **more) for _ in range(many)]


def some_fillings(source, slots, states=3):
    """A table of a part for each slot, with actions of the slot."""
    found = {}
    for slot, actions in slots.items():
        many = source.randint(1, states)
        steps = tuple({name: source.randrange(many) for name in actions if source.random() < 0.8} for _ in range(many))
        found[slot] = steps, tuple(state for state in range(many) if source.random() < 0.6)
    return found


def plain_moves(joint, tables, state):
    """The next state for each action of the whole. A state is its mode, and a dict of the states of the parts."""
    found = {}
    for action, (needs, mode) in joint[1][state[0]].items():
        nexts = dict(state[1])
        if all(name in tables[slot][0][nexts[slot]] for slot, name in needs.items()):
            for slot, name in needs.items():
                nexts[slot] = tables[slot][0][nexts[slot]][name]
            found[action] = mode, tuple(sorted(nexts.items()))
    return found


def does_rest(joint, tables, state):
    must = joint[2][state[0]]
    return must is not None and all(dict(state[1])[slot] in tables[slot][1] for slot in must)


def plain_whole(joint, tables):
    """Steps and rests of the whole, numbered by first words that are found by relaxing."""
    first = 0, tuple((slot, 0) for slot in sorted(joint[0]))
    numbers = {first: 0}
    todo = [first]
    rows = {}
    while todo:
        state = todo.pop()
        rows[numbers[state]] = moves = plain_moves(joint, tables, state)
        for goal in moves.values():
            if goal not in numbers:
                numbers[goal] = len(numbers)
                todo.append(goal)
    steps = [{name: numbers[goal] for name, goal in rows[at].items()} for at in range(len(rows))]
    best = first_words(steps)
    order = sorted(best, key=best.get)
    places = {at: place for place, at in enumerate(order)}
    resting = {numbers[state] for state in numbers if does_rest(joint, tables, state)}
    return tuple({name: places[goal] for name, goal in sorted(steps[at].items())} for at in order), \
        tuple(place for place, at in enumerate(order) if at in resting)


def right_joint(joint):
    """Whether an object tells tables that fit, in the order that the document has, of whatever size."""
    slots, rules, rests = tables_of_joint(joint)
    if not isinstance(slots, dict) or not isinstance(rules, tuple) or not isinstance(rests, tuple):
        return False
    if not all(right_name(slot) and right_set(actions) for slot, actions in slots.items()):
        return False
    if list(slots) != sorted(slots) or len(rules) != len(rests) or not rules:
        return False
    if not all(row is None or right_set(row) and set(row) <= set(slots) for row in rests):
        return False
    return all(isinstance(row, dict) and list(row) == sorted(row) and
               all(right_name(action) and right_rule(rule, slots, len(rules)) for action, rule in row.items())
               for row in rules)


def right_rule(rule, slots, many):
    if not isinstance(rule, tuple) or len(rule) != 2 or not isinstance(rule[0], dict):
        return False
    return right_number(rule[1], 0, many - 1) and list(rule[0]) == sorted(rule[0]) and \
        all(slot in slots and name in slots[slot] for slot, name in rule[0].items())


def small_parts(actions):
    """Tables of all parts with one state, and some with two."""
    found = []
    for many in range(len(actions) + 1):
        for names in itertools.combinations(actions, many):
            for rests in ((), (0,)):
                found.append((({name: 0 for name in names},), rests))
                found.append((({name: 1 for name in names}, {name: 0 for name in actions}), rests))
    return found


def joint_of(tables):
    return Joint(*tables)


def do_modes_differ(one, first, other, second):
    """Whether two modes differ, clause by clause as the document has it."""
    row, beside = one[1][first], other[1][second]
    return set(row) != set(beside) or any(row[action][0] != beside[action][0] for action in row) or \
        one[2][first] != other[2][second]


def modes_after(joint, word):
    """The mode to which rules lead, or None."""
    mode = 0
    for action in word:
        if action not in joint[1][mode]:
            return None
        _, mode = joint[1][mode][action]
    return mode


def plain_difference(one, other, words):
    """The first of some words, in their order, after which the modes of two joints differ, or None."""
    for word in words:
        first, second = modes_after(one, word), modes_after(other, word)
        if first is not None and second is not None and do_modes_differ(one, first, other, second):
            return word
    return None


def doubled(source, joint):
    """A joint with no difference to one of at most two modes: each mode stands twice, in any order."""
    slots, rules, rests = joint
    places = [[2 * mode, 2 * mode + 1] for mode in range(len(rules))]
    if source.random() < 0.5 and len(rules) == 2:
        places = [[0, 2], [1, 3]]
    rows, ends = [None] * (2 * len(rules)), [None] * (2 * len(rules))
    for mode, row in enumerate(rules):
        for place in places[mode]:
            rows[place] = {action: (needs, source.choice(places[goal])) for action, (needs, goal) in row.items()}
            ends[place] = rests[mode]
    return slots, tuple(rows), tuple(ends)


def changed_joint(source, joint):
    """A joint with one mode changed at one place."""
    slots, rules, rests = joint
    rows, ends = [dict(row) for row in rules], list(rests)
    mode = source.randrange(len(rows))
    kind = source.choice(("rests", "rule", "needs"))
    if kind == "rests" or not rows[mode]:
        ends[mode] = source.choice([row for row in (None, (), *[(slot,) for slot in slots], tuple(slots))])
    elif kind == "rule":
        del rows[mode][source.choice(sorted(rows[mode]))]
    else:
        action = source.choice(sorted(rows[mode]))
        rows[mode][action] = some_needs(source, slots), rows[mode][action][1]
    return slots, tuple(rows), tuple(ends)


def joint_steps(joint):
    return [{action: goal for action, (_, goal) in row.items()} for row in joint[1]]


def is_least_joint(joint):
    """Whether all modes are reached, in the order of their first words, and each two differ behind some word."""
    best = first_words(joint_steps(joint))
    if sorted(best) != list(range(len(joint[1]))) or [best[at] for at in range(len(best))] != sorted(best.values()):
        return False
    pairs = list(itertools.product(range(len(joint[1])), repeat=2))
    marked = {(p, q) for p, q in pairs if do_modes_differ(joint, p, joint, q)}
    changed = True
    while changed:
        changed = False
        for p, q in pairs:
            if (p, q) not in marked and any((joint[1][p][action][1], joint[1][q][action][1]) in marked
                                            for action in joint[1][p]):
                marked.add((p, q))
                changed = True
    return all((p, q) in marked for p, q in pairs if p != q)
