"""Joints: what a whole does when parts stand in all slots."""

from whatparts.core.names import MAX_ACTIONS, are_new_names, is_name, is_number, is_set, is_word
from whatparts.core.parts import Part, make_part
from whatparts.core.tables import follow
from whatparts.errors import InvalidJoint, InvalidOperation, InvalidPart, UnknownName

MAX_SLOTS = 3
MAX_MODES = 4
MAX_SLOT_ACTIONS = 3


class Joint:
    """A joint with the modes 0, 1, .., of which 0 is the first. It never changes."""

    def __init__(self, slots, rules, rests):
        if not _are_slots(slots):
            raise InvalidJoint("slots are no dict from one to three names to sets of at most three actions")
        if not _are_rules(rules, slots):
            raise InvalidJoint("rules are no tuple of one to four dicts from actions to pairs of needs and a mode")
        if not _are_rests(rests, slots, len(rules)):
            raise InvalidJoint("rests are no tuple with None or a set of slots for each mode")
        self._slots = {slot: slots[slot] for slot in sorted(slots)}
        self._rules = _copied_rules(rules)
        self._rests = rests

    @property
    def slots(self):
        """A dict from the slots to their sets of actions."""
        return {slot: self._slots[slot] for slot in self._slots}

    @property
    def rules(self):
        """For each mode a dict from actions of the whole to pairs of what the slots do and the next mode."""
        return _copied_rules(self._rules)

    @property
    def rests(self):
        """For each mode the set of the slots whose parts must rest, or None."""
        return self._rests

    @property
    def actions(self):
        """The set of all actions of the whole, also of modes that no word reaches."""
        return tuple(sorted({action for row in self._rules for action in row}))

    def after(self, word):
        """The mode to which the rules lead along a word of the whole, or None."""
        if not is_word(word):
            raise InvalidOperation("this is no tuple of names")
        return follow([{action: row[action][1] for action in row} for row in self._rules], word)

    def seen(self, slot, word):
        """The word that the part in a slot does while the whole does a word, or None."""
        if slot not in self:
            raise UnknownName(slot)
        if self.after(word) is None:
            return None
        mode = 0
        actions = []
        for action in word:
            needs, mode = self._rules[mode][action]
            if slot in needs:
                actions.append(needs[slot])
        return tuple(actions)

    def renamed_slots(self, names):
        """The joint with other names for its slots."""
        if not are_new_names(names, list(self._slots)):
            raise InvalidOperation("names are no dict from just the slots to different names")
        slots = {names[slot]: self._slots[slot] for slot in self._slots}
        rules = [
            {
                action: ({names[slot]: needs[slot] for slot in needs}, mode)
                for action, (needs, mode) in row.items()
            }
            for row in self._rules
        ]
        rests = [None if row is None else tuple(sorted([names[slot] for slot in row])) for row in self._rests]
        return make_joint(slots, rules, rests)

    def __call__(self, parts):
        check_parts(self._slots, parts)
        return whole_of(self, parts)

    def __contains__(self, value):
        return is_name(value) and value in self._slots

    def __len__(self):
        return len(self._rules)

    def __eq__(self, other):
        if not isinstance(other, Joint):
            return False
        return self._slots == other._slots and self._rules == other._rules and self._rests == other._rests

    def __str__(self):
        rules = sum([len(row) for row in self._rules])
        return f"joint of {len(self._slots)} slots, {len(self._rules)} modes, {rules} rules"


def make_joint(slots, rules, rests):
    """The joint with these slots and modes, of which there may be more than a caller may pass."""
    joint = Joint({"a": ()}, ({},), (None,))
    joint._slots = {slot: slots[slot] for slot in sorted(slots)}
    joint._rules = _copied_rules(rules)
    joint._rests = tuple(rests)
    return joint


def check_joint(value):
    """Raise InvalidJoint for what is no joint."""
    if not isinstance(value, Joint):
        raise InvalidJoint("this is no joint")


def check_slot(joint, slot):
    """Raise InvalidJoint for what is no joint, UnknownName for what is none of its slots."""
    check_joint(joint)
    if slot not in joint:
        raise UnknownName(slot)


def slots_beside(joint, slot):
    """The slots of a joint without this one, with their actions."""
    slots = joint.slots
    return {name: slots[name] for name in slots if name != slot}


def check_parts(slots, parts):
    """Raise the error for what is no dict from just these slots to parts with actions of the slots."""
    if not isinstance(parts, dict) or len(parts) != len(slots) or not all([slot in parts for slot in slots]):
        raise InvalidOperation("parts are no dict with just the slots as its keys")
    for slot in sorted(slots):
        if not can_fill(slots[slot], parts[slot]):
            raise InvalidPart("this is no part with actions of the slot")


def can_fill(actions, value):
    """Whether the value is a part that has no actions but these of a slot."""
    return isinstance(value, Part) and all([action in actions for action in value.actions])


def whole_of(joint, parts):
    """The whole of a joint with parts that can stand in its slots."""
    slots = list(joint.slots)
    modes = joint.rules
    rows = [parts[slot].steps for slot in slots]
    # A state of the whole is its mode, and behind it the states of the parts by ascending slots.
    order = [(0,) * (len(slots) + 1)]
    numbers = {order[0]: 0}
    steps = []
    while len(steps) < len(order):
        targets = _targets(slots, modes, rows, order[len(steps)])
        for target in targets.values():
            if target not in numbers:
                numbers[target] = len(order)
                order.append(target)
        steps.append({action: numbers[targets[action]] for action in targets})
    resting = [parts[slot].rests for slot in slots]
    return make_part(steps, [at for at, state in enumerate(order) if _rests_in(joint, slots, resting, state)])


def _targets(slots, modes, rows, state):
    """The next state of the whole for each action that its rule and the stepping parts let it do."""
    found = {}
    for action, (needs, mode) in modes[state[0]].items():
        states = list(state[1:])
        missing = False
        for at, slot in enumerate(slots):
            if slot in needs:
                states[at] = rows[at][state[at + 1]].get(needs[slot])
                missing = missing or states[at] is None
        if not missing:
            found[action] = (mode, *states)
    return found


def _rests_in(joint, slots, resting, state):
    """Whether the whole rests in a state: its mode lets it, and the parts that must rest do."""
    must = joint.rests[state[0]]
    if must is None:
        return False
    return all([state[at + 1] in resting[at] for at, slot in enumerate(slots) if slot in must])


def _copied_rules(rules):
    """The same rules in new dicts with ascending keys."""
    return tuple([
        {
            action: ({slot: row[action][0][slot] for slot in sorted(row[action][0])}, row[action][1])
            for action in sorted(row)
        }
        for row in rules
    ])


def _are_slots(slots):
    """Whether this is a dict from one to three names to sets of at most three actions."""
    if not isinstance(slots, dict) or not 1 <= len(slots) <= MAX_SLOTS:
        return False
    return all([
        is_name(slot) and is_set(actions) and len(actions) <= MAX_SLOT_ACTIONS for slot, actions in slots.items()
    ])


def _are_rules(rules, slots):
    """Whether this is a tuple of one to four dicts from actions of the whole to what the modes tell."""
    if not isinstance(rules, tuple) or not 1 <= len(rules) <= MAX_MODES:
        return False
    if not all([_is_row_of_rules(row, slots, len(rules)) for row in rules]):
        return False
    return len({action for row in rules for action in row}) <= MAX_ACTIONS


def _is_row_of_rules(row, slots, many):
    """Whether this is a dict from names to pairs of needs and one of so many modes."""
    if not isinstance(row, dict):
        return False
    return all([is_name(action) and _is_rule(rule, slots, many) for action, rule in row.items()])


def _is_rule(rule, slots, many):
    """Whether this is a pair of needs and one of so many modes."""
    if not isinstance(rule, tuple) or len(rule) != 2 or not isinstance(rule[0], dict):
        return False
    needs, mode = rule
    return is_number(mode, 0, many - 1) and all([slot in slots and needs[slot] in slots[slot] for slot in needs])


def _are_rests(rests, slots, many):
    """Whether this is a tuple with None or a set of slots for each of so many modes."""
    if not isinstance(rests, tuple) or len(rests) != many:
        return False
    return all([row is None or is_set(row) and all([slot in slots for slot in row]) for row in rests])
