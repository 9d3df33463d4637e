"""The wish on a missing part where other parts are known by the wishes that they keep."""

from whatparts.core.tables import word_to
from whatparts.errors import InvalidOperation
from whatparts.glue.joints import can_fill, check_joint, check_slot, slots_beside, whole_of
from whatparts.miss.compared import part_offering
from whatparts.miss.exact import Around, known_part, wish_around
from whatparts.miss.solved import every_good_offer
from whatparts.want.keeping import keeps
from whatparts.want.wishes import Wish, check_wish, names_in


def whatever_wish(joint, slot, wish, others):
    """The wish that a part keeps exactly if the whole keeps a wish with it and any parts that meet what is known."""
    check_slot(joint, slot)
    check_wish(wish)
    _check_known(wish, slots_beside(joint, slot), others)
    return wish_around(Around(joint, slot, wish, _tables(others)), joint.slots[slot])


def breaking_parts(joint, wish, known):
    """Parts that meet what is known, and with which the whole does not keep a wish, or None."""
    _check_system(joint, wish, known)
    found = _broken(Around(joint, None, wish, _tables(known)))
    if found is None:
        return None
    word, chosen = found
    parts = {}
    for at, slot in enumerate(sorted(known)):
        parts[slot] = known[slot]
        if isinstance(known[slot], Wish):
            parts[slot] = part_offering(known[slot], joint.seen(slot, word), chosen[at])
    return parts


def is_breaking(joint, wish, known, value):
    """Whether the value is a dict of parts that meet what is known, and with which the whole does not keep a wish."""
    _check_system(joint, wish, known)
    if not isinstance(value, dict) or len(value) != len(known) or not all([slot in value for slot in known]):
        return False
    slots = joint.slots
    if not all([_meets(slots[slot], value[slot], known[slot]) for slot in known]):
        return False
    return not keeps(whole_of(joint, value), wish)


def _check_system(joint, wish, known):
    """Raise the error for what is no joint, no wish without goals, or not known of just the slots."""
    check_joint(joint)
    check_wish(wish)
    _check_known(wish, joint.slots, known)


def _check_known(wish, slots, known):
    """Raise InvalidOperation for a wish with goals, or what is not known of just these slots."""
    if wish.has_goals:
        raise InvalidOperation("the wish has goals")
    if not isinstance(known, dict) or len(known) != len(slots) or not all([slot in known for slot in slots]):
        raise InvalidOperation("this is no dict with just the slots as its keys")
    if not all([_can_know(slots[slot], known[slot]) for slot in slots]):
        raise InvalidOperation("a part or a wish without goals, with actions of the slot, can be known of it")


def _can_know(actions, value):
    """Whether the value is a part, or a wish without goals, that has no actions but these."""
    if isinstance(value, Wish):
        return not value.has_goals and all([action in actions for action in value.actions])
    return can_fill(actions, value)


def _meets(actions, value, known):
    """Whether the value is a part with such actions that meets what is known."""
    if not can_fill(actions, value):
        return False
    return keeps(value, known) if isinstance(known, Wish) else value == known


def _tables(known):
    """For each slot its steps, and the offers that it can make in each state."""
    return {slot: _known_wish(is_known) if isinstance(is_known, Wish) else known_part(is_known)
            for slot, is_known in known.items()}


def _known_wish(wish):
    """The steps of the good offers of a wish, and these for each state."""
    good = every_good_offer(wish)
    return [{name: row[name] for name in names_in(good[at])} for at, row in enumerate(wish.steps)], good


def _broken(around):
    """A word of the whole, and offers of the slots that make one which the wish does not allow there, or None."""
    order = around.start()
    came = [(0, None)]
    seen = {standing: True for standing in order}
    at = 0
    while at < len(order):
        standing = order[at]
        chosen = around.unsuited(standing, None)
        if chosen is not None:
            return word_to(came, at), chosen
        for action, _, target in around.moves(standing):
            if target not in seen:
                seen[target] = True
                order.append(target)
                came.append((at, action))
        at += 1
    return None
