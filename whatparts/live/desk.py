"""A desk: a system with its parts and wishes, while it is changed."""

from whatparts.core.names import is_count, is_name
from whatparts.errors import InvalidNumber, InvalidOperation, InvalidPart, NothingToUndo, Refused, TooMany, UnknownName
from whatparts.glue.joints import can_fill, check_joint, whole_of
from whatparts.miss.exact import missing_wish
from whatparts.miss.solved import narrowed
from whatparts.want.keeping import keeps
from whatparts.want.wishes import check_wish, free_wish

MAX_WISHES = 3


class State:
    """The parts, wishes and tasks of a desk at one time. It never changes."""

    def __init__(self, parts, wishes, tasks):
        self._parts = {slot: parts[slot] for slot in sorted(parts)}
        self._wishes = {name: wishes[name] for name in sorted(wishes)}
        self._tasks = {slot: tasks[slot] for slot in sorted(tasks)}


class History:
    """The state of a desk, with those to which changes can be taken back or done again. It never changes."""

    def __init__(self, now, done, undone):
        self._now = now
        self._done = done
        self._undone = undone
        self._filled = tuple(now._parts)

    def changed(self, state):
        """The history behind one more change."""
        return History(state, (*self._done, self._now), ())

    def before(self, many):
        """The history ahead of so many changes."""
        if many > len(self._done):
            raise NothingToUndo(many)
        states = [*self._done, self._now, *self._undone[::-1]]
        return _history_at(states, len(self._done) - many)

    def behind(self, many):
        """The history behind so many changes that are done again."""
        if many > len(self._undone):
            raise NothingToUndo(many)
        states = [*self._done, self._now, *self._undone[::-1]]
        return _history_at(states, len(self._done) + many)


class Entry:
    """What a desk is when a block is entered, and the entry around this one."""

    def __init__(self, history, outer):
        self.history = history
        self.outer = outer


class Attempt:
    """A block after which a desk is what it was before."""

    def __init__(self, desk):
        self._desk = desk
        self._entry = None

    def __enter__(self):
        self._entry = Entry(self._desk._history, self._entry)
        return self._desk

    def __exit__(self, kind, value, trace):
        desk = self._desk
        desk._history = self._entry.history
        self._entry = self._entry.outer


class Desk:
    """A joint with wishes on its whole, and with a part or none and a task or none in each slot."""

    def __init__(self, joint):
        check_joint(joint)
        self._joint = joint
        self._history = History(State({}, {}, {}), (), ())

    @property
    def joint(self):
        """The joint."""
        return self._joint

    @property
    def parts(self):
        """A dict from the slots with parts to these."""
        return dict(self._history._now._parts)

    @property
    def wishes(self):
        """A dict from the names of the wishes on the whole to these."""
        return dict(self._history._now._wishes)

    @property
    def tasks(self):
        """A dict from the slots with tasks to these."""
        return dict(self._history._now._tasks)

    @property
    def open_slots(self):
        """The set of the slots without parts."""
        return _open_slots(self._joint, self._history._now)

    @property
    def whole(self):
        """The whole, or None if a slot is open."""
        return None if self.open_slots else whole_of(self._joint, self._history._now._parts)

    def put(self, slot, part):
        """Put a part into a slot, in the place of the one that is there."""
        self._change(self._with_part(slot, part))

    def take(self, slot):
        """Take the part out of a slot."""
        if slot not in self:
            raise UnknownName(slot)
        now = self._history._now
        self._change(State(_without(now._parts, slot), now._wishes, now._tasks))

    def wish(self, name, wish):
        """Add a wish on the whole, or replace the one with this name."""
        if not is_name(name):
            raise InvalidOperation("this is no name")
        check_wish(wish)
        now = self._history._now
        wishes = {**now._wishes, name: wish}
        if len(wishes) > MAX_WISHES:
            raise TooMany(MAX_WISHES)
        self._change(State(now._parts, wishes, now._tasks))

    def unwish(self, name):
        """Drop a wish on the whole."""
        now = self._history._now
        if not is_name(name) or name not in now._wishes:
            raise UnknownName(name)
        self._change(State(now._parts, _without(now._wishes, name), now._tasks))

    def task(self, slot, wish):
        """Set or replace the task of a slot."""
        if slot not in self._joint:
            raise UnknownName(slot)
        check_wish(wish)
        now = self._history._now
        self._change(State(now._parts, now._wishes, {**now._tasks, slot: wish}))

    def untask(self, slot):
        """Drop the task of a slot."""
        now = self._history._now
        if not is_name(slot) or slot not in now._tasks:
            raise UnknownName(slot)
        self._change(State(now._parts, now._wishes, _without(now._tasks, slot)))

    def need(self, slot):
        """The wish that a part keeps exactly if it can be put into the only open slot."""
        if slot not in self._joint:
            raise UnknownName(slot)
        if self.open_slots != (slot,):
            raise InvalidOperation("this is not the only open slot")
        now = self._history._now
        return _need(self._joint, now, slot, _missing_wishes(self._joint, now))

    def can_put(self, slot, part):
        """Whether a part would be let into a slot."""
        return _refusal(self._joint, self._with_part(slot, part)) is None

    def undo(self, *, many=1):
        """Take back so many changes; how many can then be taken back."""
        _check_many(many)
        self._history = self._history.before(many)
        return len(self._history._done)

    def redo(self, *, many=1):
        """Do so many changes again; how many can then be taken back."""
        _check_many(many)
        self._history = self._history.behind(many)
        return len(self._history._done)

    def attempt(self):
        """A block after which the desk is what it was before, with the same changes to take back and to do again."""
        return Attempt(self)

    def during(self, call):
        """What a call with the desk returns in such a block."""
        with self.attempt() as same:
            return call(same)

    def twin(self):
        """An independent equal desk, with the same changes to take back and to do again."""
        desk = Desk(self._joint)
        desk._history = self._history
        return desk

    def _with_part(self, slot, part):
        """The state with this part in a slot."""
        if slot not in self._joint:
            raise UnknownName(slot)
        if not can_fill(self._joint.slots[slot], part):
            raise InvalidPart("this is no part with actions of the slot")
        now = self._history._now
        return State({**now._parts, slot: part}, now._wishes, now._tasks)

    def _change(self, state):
        """Change the desk to a state, if it lets it."""
        refusal = _refusal(self._joint, state)
        if refusal is not None:
            name, reason = refusal
            raise Refused(name, reason)
        self._history = self._history.changed(state)

    def __getitem__(self, slot):
        if slot not in self:
            raise UnknownName(slot)
        return self._history._now._parts[slot]

    def __contains__(self, value):
        return is_name(value) and value in self._history._now._parts

    def __iter__(self):
        return iter(self._history._filled)

    def __len__(self):
        return len(self._history._now._parts)

    def __eq__(self, other):
        if not isinstance(other, Desk) or self._joint != other._joint:
            return False
        return self.parts == other.parts and self.wishes == other.wishes and self.tasks == other.tasks

    def __str__(self):
        now = self._history._now
        return f"desk of {len(self._joint.slots)} slots, {len(self.open_slots)} open, {len(now._wishes)} wishes"


def _history_at(states, many):
    """The history of which so many changes of all are done."""
    return History(states[many], tuple(states[:many]), tuple(states[many + 1:])[::-1])


def _check_many(many):
    """Raise InvalidNumber for what is no number of changes."""
    if not is_count(many):
        raise InvalidNumber(many)


def _without(row, name):
    """A dict without one of its names."""
    return {other: row[other] for other in row if other != name}


def _open_slots(joint, state):
    """The set of the slots without parts."""
    return tuple([slot for slot in joint.slots if slot not in state._parts])


def _refusal(joint, state):
    """The name and the reason by which a state is refused, or None."""
    missing = _missing_wishes(joint, state)
    for slot in joint.slots:
        if not _is_task_kept(joint, state, slot):
            return slot, "task"
    slots = _open_slots(joint, state)
    if not slots:
        whole = whole_of(joint, state._parts)
        for name in state._wishes:
            if not keeps(whole, state._wishes[name]):
                return name, "broken"
    if len(slots) == 1 and _need(joint, state, slots[0], missing).is_empty:
        return slots[0], "open"
    return None


def _missing_wishes(joint, state):
    """The wishes on the part in the only open slot that follow from those on the whole, or none."""
    slots = _open_slots(joint, state)
    if len(slots) != 1:
        return []
    return [missing_wish(joint, slots[0], wish, state._parts) for wish in state._wishes.values()]


def _is_task_kept(joint, state, slot):
    """Whether the part in a slot keeps the task of the slot, or some part that can stand there does."""
    if slot not in state._tasks:
        return True
    if slot in state._parts:
        return keeps(state._parts[slot], state._tasks[slot])
    return not _need(joint, state, slot, []).is_empty


def _need(joint, state, slot, missing):
    """The wish that a part keeps exactly if it can stand in a slot and keeps some more wishes; narrowed."""
    found = free_wish(joint.slots[slot])
    tasks = [state._tasks[slot]] if slot in state._tasks else []
    for wish in [*tasks, *missing]:
        found = narrowed(found & wish)
    return found
