"""What the tests share: values of every kind, and plain slow ways to tell what a part does.

Nothing here calls the functions that are tested, except to make values of the package.
"""

import itertools
import random
import re

from whatparts.core.parts import Part
from whatparts.glue.joints import Joint
from whatparts.live.desk import Desk
from whatparts.want.wishes import Wish, free_wish


def turn():
    return Part(({"put": 1}, {"get": 0}), (0,))


def loose():
    return Part(({"a": 2}, {"a": 1}, {"a": 2, "b": 1}), (1,))


def deep(wrap, depth=9):
    value = wrap("a")
    for _ in range(depth):
        value = wrap(value)
    return value


def values_of_every_kind():
    """New values of each kind that [0.4] names, right ones and wrong ones for most parameters."""
    part = turn()
    wish = free_wish(("a",)).lively()
    joint = Joint({"left": ("a",)}, ({"put": ({"left": "a"}, 0)},), (("left",),))
    return [
        0, 1, 2, 3, 4, 5, 6, 7, 8, -1, -8, 10 ** 11, 10 ** 40 - 1, 1 - 10 ** 40, True, False, None,
        "", "a", "put", "get", "abcdefgh", "abcdefghi", "A", "a1", "a b", " a", "a\n", "\n", "_", "%", "x" * 300,
        "".join(chr(code) for code in range(32, 127)),
        (), ("a",), ("put",), ("put", "get"), ("get", "put"), ("a", "b", "c", "d"), ("a", "b", "c", "d", "e"),
        ("a", "a"), ("b", "a"), ("",), ("A",), ("a", 1), ("a", None), (0,), (0, 1), (1, 0), (0, 0), (True,),
        (False, True), (None,), ((),), (("a",),), (("a",), True), (("a",), 1), (("a",), None), (["a"], True),
        ((), False), ((), True, True), ((), 0), (("b", "a"), False), ({},), ({"a": 0},), ({"a": 1},), ([],),
        [], ["a"], ["put"], [0], [("a",)], [{}], [("a",), True],
        {}, {"a": 0}, {"a": "b"}, {"put": "get"}, {"put": 0, "get": 0}, {"put": "a", "get": "a"}, {0: 0},
        {None: None}, {("a",): ("a",)}, {"a": []},
        deep(lambda value: (value,)), deep(lambda value: [value]), deep(lambda value: {"a": value}),
        part, (part,), [part], {"a": part}, (("a",), part),
        Wish((), ()), wish, (wish,), [wish], {"a": wish}, joint, (joint,), [joint], {"left": joint}, (part, wish, joint),
        Desk(joint), (Desk(joint),), [Desk(joint)], {"left": Desk(joint)},
    ]


def are_same(one, other):
    """Whether two values are equal and of one kind, as 1 and True are not."""
    return type(one) is type(other) and one == other


def right_name(value):
    return isinstance(value, str) and re.fullmatch("[a-z]{1,8}", value) is not None


def right_word(value):
    return isinstance(value, tuple) and all(right_name(name) for name in value)


def right_set(value):
    return right_word(value) and all(one < other for one, other in zip(value, value[1:]))


def right_offer(value):
    return isinstance(value, tuple) and len(value) == 2 and right_set(value[0]) and value[1] in (True, False) \
        and isinstance(value[1], bool)


def right_number(value, low, high):
    return isinstance(value, int) and not isinstance(value, bool) and low <= value <= high


def plain_words(actions, most):
    """All words, in the order of [0.7]."""
    return [word for length in range(most + 1) for word in itertools.product(sorted(actions), repeat=length)]


def lead(steps, word):
    """The state to which a word leads, or None."""
    state = 0
    for name in word:
        if name not in steps[state]:
            return None
        state = steps[state][name]
    return state


def offer_in(steps, rests, state):
    return tuple(sorted(steps[state])), state in rests


def names_in(steps):
    return tuple(sorted({name for row in steps for name in row}))


def first_words(steps):
    """The first word that leads to each state, by relaxing until nothing changes."""
    best = {0: (0, ())}
    changed = True
    while changed:
        changed = False
        for state, row in enumerate(steps):
            for name, goal in row.items():
                if state in best:
                    length, word = best[state]
                    found = (length + 1, word + (name,))
                    if goal not in best or found < best[goal]:
                        best[goal] = found
                        changed = True
    return best


def unlike_states(steps, rests):
    """The pairs of states that some word tells apart, by marking pairs until nothing changes."""
    pairs = list(itertools.product(range(len(steps)), repeat=2))
    marked = {(p, q) for p, q in pairs if offer_in(steps, rests, p) != offer_in(steps, rests, q)}
    changed = True
    while changed:
        changed = False
        for p, q in pairs:
            if (p, q) not in marked and any((steps[p][name], steps[q][name]) in marked for name in steps[p]):
                marked.add((p, q))
                changed = True
    return marked


def is_least_table(steps, rests):
    """Whether all states are reached, told apart, and numbered in the order of their first words."""
    best = first_words(steps)
    if sorted(best) != list(range(len(steps))):
        return False
    if [best[state] for state in range(len(steps))] != sorted(best.values()):
        return False
    marked = unlike_states(steps, rests)
    return all((p, q) in marked for p in range(len(steps)) for q in range(p))


def are_alike_tables(one, other):
    """Whether two pairs of steps and rests have the same offers after all words."""
    return follows_both(one, one, other, lambda first, second: first)


def follows_both(one, other, made, joined):
    """Whether the third table offers after each word what the offers of the first two are joined to.

    `joined` gets an offer of each, or None for one that does not have the word.
    """
    todo = [(0, 0, 0)]
    seen = set(todo)
    while todo:
        p, q, r = todo.pop()
        first = None if p is None else offer_in(*one, p)
        second = None if q is None else offer_in(*other, q)
        if offer_in(*made, r) != joined(first, second):
            return False
        for name, goal in made[0][r].items():
            at = (p if p is None else one[0][p].get(name), q if q is None else other[0][q].get(name), goal)
            if at not in seen:
                seen.add(at)
                todo.append(at)
    return True


def join_of_both(first, second):
    return tuple(sorted(set(first[0]) & set(second[0]))), first[1] and second[1]


def join_of_any(first, second):
    nothing = ((), False)
    first, second = first or nothing, second or nothing
    return tuple(sorted(set(first[0]) | set(second[0]))), first[1] or second[1]


def small_tables():
    """All steps and rests with two states and two actions, and with three states and one action."""
    found = []
    for states, actions in ((1, ("a", "b", "c")), (2, ("a", "b")), (3, ("a",))):
        goals = [None, *range(states)]
        rows = [{name: goal for name, goal in zip(actions, row) if goal is not None}
                for row in itertools.product(goals, repeat=len(actions))]
        subsets = [rests for many in range(states + 1) for rests in itertools.combinations(range(states), many)]
        found += itertools.product(itertools.product(rows, repeat=states), subsets)
    return found


def some_tables(many, actions="abcd", seed=1):
    """Steps and rests of up to eight states, the same ones at each run."""
    source = random.Random(seed)
    found = []
    for _ in range(many):
        states = source.randint(1, 8)
        names = source.sample(actions, source.randint(0, len(actions)))
        dense = source.choice((0.3, 0.6, 0.9))
        steps = tuple({name: source.randrange(states) for name in names if source.random() < dense}
                      for _ in range(states))
        resting = source.choice((0.0, 0.2, 0.5))
        found.append((steps, tuple(state for state in range(states) if source.random() < resting)))
    return found


def ring(many, rests=(0,)):
    """A part that does `a` around so many states."""
    return Part(tuple({"a": (state + 1) % many} for state in range(many)), rests)
