"""The one text of each word, offer, part, wish and joint, and the value that has a text."""

from whatparts.core.names import ascends, is_name, is_offer, is_set, is_word
from whatparts.core.parts import Part, check_part
from whatparts.errors import InvalidOperation, ParseError
from whatparts.glue.joints import Joint, check_joint
from whatparts.want.wishes import Wish, check_wish

NONE = "-"
DIGITS = "0123456789"
MAX_DIGITS = 3


def write_word(word):
    """The text of a word."""
    if not is_word(word):
        raise InvalidOperation("this is no tuple of names")
    return _joined(word, " ")


def write_offer(offer):
    """The text of an offer."""
    if not is_offer(offer):
        raise InvalidOperation("this is no offer")
    return _offer_text(offer)


def write_part(part):
    """The text of a part."""
    check_part(part)
    lines = ["part"]
    for state, row in enumerate(part.steps):
        mark = "!" if state in part.rests else ":"
        lines.append(f"{state}{mark} {_steps_text(row)}")
    return "\n".join(lines)


def write_wish(wish):
    """The text of a wish."""
    check_wish(wish)
    lines = ["wish"]
    goals = wish.goals
    for state, row in enumerate(wish.steps):
        lines.append(f"{state}: {_offers_text(wish.offers[state])} | {_steps_text(row)}")
        lines.extend([f"goal {_offers_text(done)} | {_moves_text(moves)}" for done, moves in goals[state]])
    return "\n".join(lines)


def write_joint(joint):
    """The text of a joint."""
    check_joint(joint)
    lines = ["joint"]
    for slot, actions in joint.slots.items():
        lines.append(f"slot {slot}: {_joined(actions, ' ')}")
    for mode, row in enumerate(joint.rules):
        must = joint.rests[mode]
        lines.append(f"mode {mode} never" if must is None else f"mode {mode}: {_joined(must, ' ')}")
        for action, (needs, goal) in row.items():
            steps = [f"{slot}.{needs[slot]}" for slot in needs]
            lines.append(f"{action}: {_joined(steps, ' ')} -> {goal}")
    return "\n".join(lines)


def read_word(text):
    """The word with this text."""
    return _only_line(text, _read_word)


def read_offer(text):
    """The offer with this text."""
    return _only_line(text, _read_offer)


def read_part(text):
    """The part with this text."""
    lines = _lines_below(text, "part")
    steps, rests = [], []
    for state, line in enumerate(lines):
        mark, _, rest = line.partition(" ")
        row = _read_row(rest, _read_step)
        if row is None or mark not in (f"{state}:", f"{state}!"):
            raise ParseError(state + 1)
        steps.append(row)
        if mark.endswith("!"):
            rests.append(state)
    if not steps:
        raise ParseError(len(lines) + 1)
    return Part(tuple(steps), tuple(rests))


def read_wish(text):
    """The wish with this text."""
    offers, steps, goals = [], [], []
    for at, line in enumerate(_lines_below(text, "wish")):
        # The word ahead of the first blank tells which kind of line it can be.
        mark, _, rest = line.partition(" ")
        if mark == f"{len(steps)}:":
            row = _read_two(rest, _read_step)
            goals.append([])
        else:
            row = _read_two(rest, _read_move) if mark == "goal" and steps else None
        if row is None:
            raise ParseError(at + 1)
        if mark == "goal":
            goals[-1].append(row)
        else:
            offers.append(row[0])
            steps.append(row[1])
    return Wish.of(tuple(offers), tuple(steps), tuple([tuple(row) for row in goals]))


def read_joint(text):
    """The joint with this text."""
    lines = _lines_below(text, "joint")
    slots, rules, rests = {}, [], []
    for at, line in enumerate(lines):
        if not _takes_slot(line, slots, rules) and not _takes_mode(line, rules, rests) and not _takes_rule(line, rules):
            raise ParseError(at + 1)
    if not rules:
        raise ParseError(len(lines) + 1)
    return Joint(slots, tuple(rules), tuple(rests))


def _joined(items, between):
    """The items with something between them, or the sign for none."""
    return between.join(items) if len(items) > 0 else NONE


def _offer_text(offer):
    """The text of a right offer."""
    names, rests = offer
    text = "+".join(names) if len(names) > 0 else "0"
    return f"{text}!" if rests else text


def _offers_text(offers):
    """The text of some offers."""
    return _joined([_offer_text(offer) for offer in offers], ", ")


def _steps_text(row):
    """The text of the steps of a state."""
    return _joined([f"{action} {row[action]}" for action in row], ", ")


def _moves_text(moves):
    """The text of the moves of a goal."""
    rows = [[action, *[str(goal) for goal in moves[action]]] for action in moves]
    return _joined([" ".join(row) for row in rows], ", ")


def _only_line(text, read):
    """What the one line of a text tells."""
    lines = _lines(text)
    found = read(lines[0])
    if found is None:
        raise ParseError(0)
    if len(lines) > 1:
        raise ParseError(1)
    return found


def _lines_below(text, first):
    """The lines of a text behind its first one, which is told."""
    lines = _lines(text)
    if lines[0] != first:
        raise ParseError(0)
    return lines[1:]


def _lines(text):
    """The lines of a text."""
    if not isinstance(text, str):
        raise ParseError(None)
    return text.split("\n")


def _read_items(text, between, read):
    """A tuple of what the items of a text tell, or None if one of them does not have its form."""
    if text == NONE:
        return ()
    found = tuple([read(item) for item in text.split(between)])
    return None if None in found else found


def _read_ascending(text, between, read):
    """The same, or None also if they do not ascend."""
    found = _read_items(text, between, read)
    return found if found is not None and ascends(found) else None


def _read_row(text, read):
    """A dict of pairs that ascend by their names, or None."""
    found = _read_items(text, ", ", read)
    if found is None or not ascends([name for name, _ in found]):
        return None
    return {name: worth for name, worth in found}


def _read_two(text, read):
    """The pair of some offers, and of a dict, of which the items are read so; or None."""
    first, _, second = text.partition(" | ")
    offers, row = _read_ascending(first, ", ", _read_offer), _read_row(second, read)
    return None if offers is None or row is None else (offers, row)


def _read_name(text):
    """A name, or None."""
    return text if is_name(text) else None


def _read_word(text):
    """A word, or None."""
    return _read_items(text, " ", _read_name)


def _read_number(text):
    """A number from 0 to 999, or None."""
    if not 1 <= len(text) <= MAX_DIGITS or not all([digit in DIGITS for digit in text]):
        return None
    return int(text) if text == "0" or text[0] != "0" else None


def _read_offer(text):
    """An offer, or None."""
    rests = text.endswith("!")
    actions = text.removesuffix("!")
    names = () if actions == "0" else tuple(actions.split("+"))
    return (names, rests) if is_set(names) else None


def _read_step(text):
    """A pair of an action and a number, or None."""
    name, _, number = text.partition(" ")
    found = _read_number(number)
    return (name, found) if is_name(name) and found is not None else None


def _read_move(text):
    """A pair of an action and at least one number, ascending; or None."""
    name, _, numbers = text.partition(" ")
    found = _read_ascending(numbers, " ", _read_number)
    return (name, found) if is_name(name) and found else None


def _read_need(text):
    """A pair of a slot and an action, or None."""
    slot, _, action = text.partition(".")
    return (slot, action) if is_name(slot) and is_name(action) else None


def _takes_slot(line, slots, rules):
    """Whether this line of a slot can stand here; what it tells is added."""
    mark, _, rest = line.partition(" ")
    slot, _, actions = rest.partition(": ")
    found = _read_ascending(actions, " ", _read_name)
    if mark != "slot" or rules or not is_name(slot) or found is None or not ascends([*slots, slot]):
        return False
    slots[slot] = found
    return True


def _takes_mode(line, rules, rests):
    """Whether this line of a mode can stand here; what it tells is added."""
    if line == f"mode {len(rules)} never":
        rules.append({})
        rests.append(None)
        return True
    mark, _, rest = line.partition(": ")
    found = _read_ascending(rest, " ", _read_name)
    if mark != f"mode {len(rules)}" or found is None:
        return False
    rules.append({})
    rests.append(found)
    return True


def _takes_rule(line, rules):
    """Whether this line of a rule can stand here; what it tells is added to the last mode."""
    action, _, rest = line.partition(": ")
    needs, _, mode = rest.partition(" -> ")
    found, number = _read_needs(needs), _read_number(mode)
    if not rules or not is_name(action) or not ascends([*rules[-1], action]) or found is None or number is None:
        return False
    rules[-1][action] = (found, number)
    return True


def _read_needs(text):
    """A dict from slots to actions, or None."""
    found = _read_items(text, " ", _read_need)
    if found is None or not ascends([slot for slot, _ in found]):
        return None
    return {slot: action for slot, action in found}
