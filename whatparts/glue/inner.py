"""Joints compared by the wholes that they make, and joints into which a part or a joint is put."""

from whatparts.core.parts import make_part
from whatparts.core.tables import least_rows, walk_both, word_to
from whatparts.errors import InvalidOperation, InvalidPart
from whatparts.glue.joints import can_fill, check_joint, check_slot, make_joint, slots_beside


def joint_difference(one, other):
    """The first word along which the rules of both lead, and after which the modes differ, or None."""
    found = _difference(one, other)
    return None if found is None else found[0]


def are_alike_joints(one, other):
    """Whether two joints have no difference."""
    return _difference(one, other) is None


def least_joint(joint):
    """The joint with the fewest modes that has no difference, in the order of their first words."""
    check_joint(joint)
    rules, rests = joint.rules, joint.rests
    rows, modes = least_rows(_mode_steps(rules), [_mark(row, rests[mode]) for mode, row in enumerate(rules)])
    found = [
        {action: (rules[mode][action][0], rows[at][action]) for action in rows[at]} for at, mode in enumerate(modes)
    ]
    return make_joint(joint.slots, found, [rests[mode] for mode in modes])


def parting_parts(one, other):
    """Parts for the slots whose wholes are not alike, or None."""
    found = _difference(one, other)
    if found is None:
        return None
    word, first, second = found
    needs, resting = _parting_offers(one, first, other, second)
    return {slot: _line(one.seen(slot, word), needs.get(slot), slot in resting) for slot in one.slots}


def filled(joint, slot, part):
    """The joint without a slot that makes the wholes which the joint makes with this part in the slot."""
    check_slot(joint, slot)
    if not can_fill(joint.slots[slot], part):
        raise InvalidPart("this is no part with actions of the slot")
    # A part is a joint without slots, the modes of which are the states of the part.
    rules = [{action: ({}, state) for action, state in row.items()} for row in part.steps]
    rests = [() if state in part.rests else None for state in range(len(part))]
    return _inserted(joint, slot, make_joint({}, rules, rests))


def nested(joint, slot, other):
    """The joint that has the slots of another one in the place of a slot."""
    check_slot(joint, slot)
    check_joint(other)
    if not all([action in joint.slots[slot] for action in other.actions]):
        raise InvalidOperation("an action of the other joint is none of the slot")
    if any([name in other for name in slots_beside(joint, slot)]):
        raise InvalidOperation("a slot of the other joint is also another slot of the joint")
    return _inserted(joint, slot, other)


def _difference(one, other):
    """The first word after which two joints differ, with the modes after it, or None."""
    check_joint(one)
    check_joint(other)
    if one.slots != other.slots:
        raise InvalidOperation("the slots are not equal")
    rules, beside = one.rules, other.rules
    pairs, came = walk_both(_mode_steps(rules), _mode_steps(beside))
    for at, (first, second) in enumerate(pairs):
        if _mark(rules[first], one.rests[first]) != _mark(beside[second], other.rests[second]):
            return word_to(came, at), first, second
    return None


def _mode_steps(rules):
    """The next modes alone."""
    return [{action: mode for action, (_, mode) in row.items()} for row in rules]


def _mark(row, rests):
    """What a mode has beside its next modes: equal for modes that do not differ."""
    return tuple([(action, tuple(needs.items())) for action, (needs, _) in row.items()]), rests


def _parting_offers(one, first, other, second):
    """What parts must do in two modes that differ: an action of some slots, and the slots that rest."""
    # The slots of one side are taken as far as it does not need more than the other one: then the
    # wholes differ, as only this side has what it needs.
    row, beside = one.rules[first], other.rules[second]
    for action in sorted(set(row) | set(beside)):
        if action not in row or action not in beside:
            needs, _ = row[action] if action in row else beside[action]
            return needs, ()
        mine, _ = row[action]
        its, _ = beside[action]
        if mine != its:
            return (its if all([mine.get(slot) == its[slot] for slot in its]) else mine), ()
    must, its = one.rests[first], other.rests[second]
    if must is None or its is None:
        return {}, (its if must is None else must)
    return {}, (its if all([slot in must for slot in its]) else must)


def _line(word, action, rests):
    """The part that does a word and then an action, if there is one, and may rest ahead of this."""
    actions = list(word) if action is None else [*word, action]
    steps = [{name: at + 1} for at, name in enumerate(actions)]
    return make_part([*steps, {}], [len(word)] if rests else [])


def _inserted(joint, slot, other):
    """The joint with what another one does in the place of what the part in a slot does."""
    order = [(0, 0)]
    numbers = {(0, 0): 0}
    rules = []
    outer, inner = joint.rules, other.rules
    while len(rules) < len(order):
        mode, inside = order[len(rules)]
        row = _inserted_rules(outer[mode], slot, inner[inside], inside)
        for _, target in row.values():
            if target not in numbers:
                numbers[target] = len(order)
                order.append(target)
        rules.append({action: (needs, numbers[target]) for action, (needs, target) in row.items()})
    rests = [_inserted_rests(joint.rests[mode], slot, other.rests[inside]) for mode, inside in order]
    beside, more = slots_beside(joint, slot), other.slots
    return make_joint({**beside, **more}, rules, rests)


def _inserted_rules(row, slot, inner, inside):
    """The rules of a mode, with those of the inner mode for the action of the slot; they lead to pairs of modes."""
    found = {}
    for action, (needs, mode) in row.items():
        beside = {name: needs[name] for name in needs if name != slot}
        if slot not in needs:
            found[action] = (beside, (mode, inside))
        elif needs[slot] in inner:
            deeper, target = inner[needs[slot]]
            found[action] = ({**beside, **deeper}, (mode, target))
    return found


def _inserted_rests(must, slot, inner):
    """The slots whose parts must rest where both modes stand, or None."""
    if must is None or slot not in must:
        return must
    if inner is None:
        return None
    return tuple(sorted([name for name in must if name != slot] + list(inner)))
