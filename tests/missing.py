"""What the tests of missing parts share: systems, and plain slow ways to tell what a missing part must do.

A system is a tuple (joint, slot, wish, others) of tables, as in `joining` and `wishing`; `others` has a
table of a part for each other slot. Nothing here calls the functions that are tested, except to make values.
"""

import random

from tests.helpers import offer_in
from tests.joining import joint_of, plain_whole, small_parts, some_fillings, some_joint
from tests.wishing import does_keep, every_offer, part_of, some_wish, wish_of


def objects(system):
    """The joint, slot, wish and parts of a system, to be passed."""
    joint, slot, wish, others = system
    return joint_of(joint), slot, wish_of(wish), {name: part_of(table) for name, table in others.items()}


def plain_steps(system, standing):
    """The action of the whole, that of the slot or None, and the next standing, for each rule that can be done."""
    joint, slot, wish, others = system
    mode, states, state = standing
    found = []
    for action, (needs, behind) in joint[1][mode].items():
        nexts = dict(zip(sorted(others), states))
        if all(name in others[other][0][nexts[other]] for other, name in needs.items() if other != slot):
            for other, name in needs.items():
                if other != slot:
                    nexts[other] = others[other][0][nexts[other]][name]
            goes = wish[1][state].get(action, -1) if state >= 0 else -1
            found.append((action, needs.get(slot), (behind, tuple(nexts[other] for other in sorted(others)), goes)))
    return found


def closed(system, standings):
    found = set(standings)
    while True:
        more = {goal for standing in found for _, own, goal in plain_steps(system, standing) if own is None}
        if more <= found:
            return found
        found |= more


def plain_standings(system, word):
    """The standings after a word, clause by clause as the document has them."""
    _, _, wish, others = system
    found = closed(system, {(0, (0,) * len(others), 0 if wish[0] else -1)})
    for action in word:
        found = closed(system, {goal for standing in found for _, own, goal in plain_steps(system, standing)
                                if own == action})
    return tuple(sorted(found))


def offer_made(system, standing, offer):
    """The offer of the whole that an offer of the part makes in a standing."""
    joint, slot, _, others = system
    mode, states, _ = standing
    offers = {name: offer_in(*others[name], state) for name, state in zip(sorted(others), states)}
    offers[slot] = offer
    names = tuple(sorted(action for action, (needs, _) in joint[1][mode].items()
                         if all(need in offers[name][0] for name, need in needs.items())))
    must = joint[2][mode]
    return names, must is not None and all(offers[name][1] for name in must)


def plain_suits(system, word, offer):
    wish = system[2]
    return all(standing[2] != -1 and offer_made(system, standing, offer) in wish[0][standing[2]]
               for standing in plain_standings(system, word))


def does_fit(system, table):
    """Whether the whole with this part keeps the wish."""
    joint, slot, wish, others = system
    return does_keep(plain_whole(joint, {**others, slot: table}), wish)


def generous(source, wish):
    """A wish that allows many offers, so that some parts make the whole keep it."""
    offers, steps, goals = wish
    actions = sorted({name for row in steps for name in row}) or ["w"]
    every = every_offer(actions)
    share = source.choice((0.5, 0.8, 1))
    rows = [tuple(offer for offer in every if source.random() < share) for _ in offers]
    states = len(offers)
    nexts = [{name: steps[at].get(name, source.randrange(states))
              for name in sorted({name for names, _ in row for name in names})} for at, row in enumerate(rows)]
    counts = [source.choice((0, 1, 1, 2)) if any(goals) else 0 for _ in rows]
    goals = tuple(tuple(generous_goal(source, row, nexts[at], counts) for _ in range(counts[at]))
                  for at, row in enumerate(rows))
    return tuple(rows), tuple(nexts), goals


def generous_goal(source, offers, steps, counts):
    moves = {}
    for name, state in steps.items():
        goals = tuple(goal for goal in range(counts[state]) if source.random() < 0.8)
        if goals:
            moves[name] = goals
    return tuple(offer for offer in offers if source.random() < 0.3), moves


def some_system(source, slots=3, states=2, most_goals=2):
    joint = some_joint(source, names=("in", "left", "right")[:slots], inner="ab", outer="xy")
    joint = joint[0], joint[1][:2], joint[2][:2]
    joint = joint[0], tuple({action: (needs, mode % len(joint[1])) for action, (needs, mode) in row.items()}
                            for row in joint[1]), joint[2]
    slot = source.choice(sorted(joint[0]))
    others = some_fillings(source, {name: names for name, names in joint[0].items() if name != slot}, states)
    wish = generous(source, some_wish(source, "xy"[:source.randint(1, 2)], source.choice((1, 2, 3)), most_goals))
    return joint, slot, wish, others


def some_systems(many, seed=1, **more):
    """Systems of small tables, the same ones at each run."""
    source = random.Random(seed)
    return [some_system(source, **more) for _ in range(many)]


def parts_of_slot(system, source=None, many=0):
    """Tables of small parts with actions of the missing slot, and so many drawn ones with three states."""
    names = system[0][0][system[1]]
    drawn = [some_fillings(source, {"a": names})["a"] for _ in range(many)]
    return small_parts(names) + drawn
