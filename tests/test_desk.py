"""A desk: its changes, what it refuses, what it tells, and how changes are taken back."""

import random
import unittest

from tests.helpers import are_same, right_name, ring, turn, values_of_every_kind
from tests.joining import belt, joint_of, plain_whole, small_parts, some_fillings, some_joint, tables_of_joint
from tests.missing import generous
from tests.solving import can_be_kept, plain_limited
from tests.test_exact import going, in_step, must
from tests.wishing import does_keep, few, part_of, some_wish, table_of, tables_of, turns, wish_of
from whatparts.core.parts import Part
from whatparts.errors import InvalidJoint, InvalidNumber, InvalidOperation, InvalidPart, InvalidWish, NothingToUndo
from whatparts.errors import Refused, TooMany, UnknownName
from whatparts.glue.inner import filled, nested
from whatparts.glue.joints import Joint
from whatparts.live import desk as module
from whatparts.live.desk import MAX_WISHES, Desk
from whatparts.miss.compared import are_same as keep_same
from whatparts.miss.exact import missing_wish
from whatparts.want.keeping import keeps
from whatparts.want.wishes import Wish, free_wish

METHODS = ("put", "take", "wish", "unwish", "task", "untask", "need", "can_put", "undo", "redo", "attempt", "during",
           "twin", "__init__", "__getitem__", "__contains__", "__iter__", "__len__", "__eq__", "__str__")
PROPERTIES = ("joint", "parts", "wishes", "tasks", "open_slots", "whole")
EMPTY = Wish((), ())
TAKE = Part(({"take": 0},))
ONCE = Part(({"take": 1}, {}))
BELT_WISH = free_wish(("put", "take"))


def right():
    """A desk with both parts and a wish."""
    desk = Desk(belt())
    desk.wish("turns", turns())
    desk.put("left", turn())
    desk.put("right", TAKE)
    return desk


def told(desk):
    """All that a desk tells of itself."""
    return desk.joint, desk.parts, desk.wishes, desk.tasks, desk.open_slots, desk.whole, list(desk), len(desk), str(desk)


def steps_back(desk):
    """How many changes can be taken back, and how many done again."""
    many, more = 0, 0
    twin = desk.twin()
    while True:
        try:
            twin.undo()
            many += 1
        except NothingToUndo:
            break
    twin = desk.twin()
    while True:
        try:
            twin.redo()
            more += 1
        except NothingToUndo:
            return many, more


class DeskCase(unittest.TestCase):
    def refuses(self, name, reason, call, *more):
        with self.assertRaises(Refused) as caught:
            call(*more)
        self.assertEqual([caught.exception.name, caught.exception.reason], [name, reason])

    def changes_nothing(self, desk, error, call, *more, **named):
        """Check that a call raises an error of just this class, and changes nothing."""
        before = told(desk), steps_back(desk)
        with self.assertRaises(error) as caught:
            call(*more, **named)
        self.assertIs(type(caught.exception), error)
        self.assertEqual((told(desk), steps_back(desk)), before)
        return caught.exception


class Interface(unittest.TestCase):
    def test_all_stands_where_it_is_listed(self):
        self.assertEqual(MAX_WISHES, 3)
        self.assertIs(vars(module)["Desk"], Desk)
        self.assertEqual(Desk.__module__, "whatparts.live.desk")
        for name in (*METHODS, *PROPERTIES):
            self.assertIn(name, vars(Desk))

    def test_joints(self):
        for value in values_of_every_kind():
            if isinstance(value, Joint):
                self.assertEqual(Desk(value).joint, value)
            else:
                with self.assertRaises(InvalidJoint, msg=value):
                    Desk(value)


class Told(DeskCase):
    def test_a_new_desk(self):
        desk = Desk(belt())
        self.assertEqual(told(desk), (belt(), {}, {}, {}, ("left", "right"), None, [], 0, "desk of 2 slots, 2 open, 0 wishes"))
        self.assertEqual(steps_back(desk), (0, 0))

    def test_a_full_desk(self):
        desk = right()
        desk.task("right", must())
        whole = belt()({"left": turn(), "right": TAKE})
        self.assertEqual(told(desk), (belt(), {"left": turn(), "right": TAKE}, {"turns": turns()}, {"right": must()}, (), whole,
                                      ["left", "right"], 2, "desk of 2 slots, 0 open, 1 wishes"))
        self.assertEqual([desk["left"], desk["right"], "left" in desk, "turns" in desk], [turn(), TAKE, True, False])

    def test_order_of_what_is_told(self):
        joint = in_step("cab")
        desk = Desk(joint)
        self.assertEqual(desk.open_slots, ("a", "b", "c"))
        for slot in "bca":
            desk.put(slot, ring(1, ()))
            desk.task(slot, going(1))
        for name in ("z", "x", "y"):
            desk.wish(name, going(1))
        self.assertEqual([list(desk.parts), list(desk.tasks), list(desk.wishes), list(desk)],
                         [["a", "b", "c"], ["a", "b", "c"], ["x", "y", "z"], ["a", "b", "c"]])
        desk.take("b")
        self.assertEqual([list(desk), desk.open_slots, len(desk)], [["a", "c"], ("b",), 2])

    def test_what_is_told_can_be_changed(self):
        desk = right()
        desk.task("left", free_wish(("get", "put")))
        before = told(desk)
        for row in (desk.parts, desk.wishes, desk.tasks, desk.joint.slots):
            row.clear()
        desk.whole.steps[0].clear()
        self.assertEqual(told(desk), before)

    def test_items(self):
        desk = right()
        desk.take("left")
        for value in values_of_every_kind() + ["left", "turns", "middle"]:
            self.assertIs(value in desk, False, value)
            with self.assertRaises(UnknownName, msg=value) as caught:
                desk[value]
            self.assertTrue(are_same(caught.exception.name, value))
        self.assertIs("right" in desk, True)

    def test_iterated_as_it_is_when_it_begins(self):
        desk = right()
        seen = []
        for slot in desk:
            seen.append(slot)
            if slot == "left":
                desk.take("right")
                desk.take("left")
        self.assertEqual([seen, list(desk)], [["left", "right"], []])
        rows = iter(right())
        self.assertEqual([next(rows), next(rows), next(rows, None)], ["left", "right", None])

    def test_equal(self):
        self.assertTrue(right() == right())
        self.assertFalse(right() != right())
        for change in (lambda desk: desk.take("left"), lambda desk: desk.unwish("turns"), lambda desk: desk.put("right", Part(
                ({"take": 1}, {"take": 0}))), lambda desk: desk.task("left", free_wish(("get", "put"))),
                lambda desk: desk.wish("more", turns()), lambda desk: desk.wish("turns", turns().lively())):
            desk = right()
            change(desk)
            self.assertFalse(desk == right())
            self.assertTrue(desk != right())
            desk.undo()
            self.assertTrue(desk == right())
        self.assertFalse(Desk(belt()) == Desk(in_step("xy")))
        for value in values_of_every_kind() + [right().parts, right().joint]:
            self.assertFalse(right() == value)
            self.assertTrue(right() != value)
        one, other = Desk(belt()), Desk(belt())
        one.put("left", turn())
        other.task("left", free_wish(("put",)))
        other.undo()
        other.put("left", turn())
        self.assertTrue(one == other)


class Changed(DeskCase):
    def test_all_return_none(self):
        desk = Desk(belt())
        for call, more in ((desk.wish, ("one", turns())), (desk.put, ("left", turn())), (desk.task, ("right", must())),
                           (desk.put, ("right", TAKE)), (desk.take, ("left",)), (desk.untask, ("right",)),
                           (desk.unwish, ("one",))):
            self.assertIsNone(call(*more))
        self.assertEqual([desk.parts, desk.wishes, desk.tasks], [{"right": TAKE}, {}, {}])
        self.assertEqual(steps_back(desk), (7, 0))

    def test_replaced(self):
        desk = right()
        other = Part(({"take": 1}, {"take": 0}))
        desk.put("right", other)
        desk.wish("turns", turns().lively())
        desk.task("left", free_wish(("get", "put")))
        desk.task("left", free_wish(("get", "put")).lively())
        self.assertEqual([desk["right"], desk.wishes, desk.tasks],
                         [other, {"turns": turns().lively()}, {"left": free_wish(("get", "put")).lively()}])

    def test_equal_changes_count(self):
        desk = right()
        for call, more in ((desk.put, ("left", turn())), (desk.wish, ("turns", turns())), (desk.put, ("left", turn()))):
            before = told(desk)
            call(*more)
            self.assertEqual(told(desk), before)
        self.assertEqual(steps_back(desk), (6, 0))

    def test_three_and_four_wishes(self):
        desk = right()
        desk.wish("a", BELT_WISH)
        desk.wish("b", BELT_WISH)
        self.assertEqual(self.changes_nothing(desk, TooMany, desk.wish, "c", BELT_WISH).limit, 3)
        desk.wish("a", turns())
        self.changes_nothing(desk, TooMany, desk.wish, "c", EMPTY)
        desk.unwish("b")
        desk.wish("c", BELT_WISH)
        self.assertEqual(list(desk.wishes), ["a", "c", "turns"])

    def test_wrong_put(self):
        desk = right()
        desk.take("right")
        for value in values_of_every_kind():
            for part in (TAKE, None, value):
                error = self.changes_nothing(desk, UnknownName, desk.put, value, part)
                self.assertIs(error.name, value)
                with self.assertRaises(UnknownName):
                    desk.can_put(value, part)
            if not (isinstance(value, Part) and set(value.actions) <= {"take"}):
                self.changes_nothing(desk, InvalidPart, desk.put, "right", value)
                with self.assertRaises(InvalidPart, msg=value):
                    desk.can_put("right", value)
        self.changes_nothing(desk, InvalidPart, desk.put, "right", Part(({"take": 0}, {"put": 0})))

    def test_wrong_take(self):
        desk = right()
        desk.take("right")
        for value in [*values_of_every_kind(), "right", "middle", "turns"]:
            self.assertTrue(are_same(self.changes_nothing(desk, UnknownName, desk.take, value).name, value))

    def test_wrong_wish(self):
        desk = right()
        for value in values_of_every_kind():
            if not right_name(value):
                for wish in (turns(), None, value):
                    self.changes_nothing(desk, InvalidOperation, desk.wish, value, wish)
            if not isinstance(value, Wish):
                self.changes_nothing(desk, InvalidWish, desk.wish, "more", value)
            self.assertTrue(are_same(self.changes_nothing(desk, UnknownName, desk.unwish, value).name, value))
        for name in ("a", "b"):
            desk.wish(name, BELT_WISH)
        self.changes_nothing(desk, InvalidWish, desk.wish, "more", None)
        self.changes_nothing(desk, UnknownName, desk.unwish, "left")

    def test_wrong_task(self):
        desk = right()
        for value in values_of_every_kind():
            for wish in (must(), None, value):
                self.assertIs(self.changes_nothing(desk, UnknownName, desk.task, value, wish).name, value)
            if not isinstance(value, Wish):
                self.changes_nothing(desk, InvalidWish, desk.task, "right", value)
            self.assertTrue(are_same(self.changes_nothing(desk, UnknownName, desk.untask, value).name, value))
        desk.task("left", free_wish(("get", "put")))
        for slot in ("right", "middle", "turns"):
            self.changes_nothing(desk, UnknownName, desk.untask, slot)


class Refusals(DeskCase):
    def test_tasks_of_parts(self):
        desk = Desk(belt())
        desk.task("left", Wish((((("put",), True),), ((("get",), False),)), ({"put": 1}, {"get": 0})))
        self.refuses("left", "task", desk.put, "left", Part(({"put": 1}, {"get": 0})))
        desk.put("left", turn())
        self.refuses("left", "task", desk.put, "left", Part(({},)))
        self.refuses("left", "task", desk.task, "left", free_wish(("get",)))
        self.assertEqual([desk["left"], steps_back(desk)], [turn(), (2, 0)])

    def test_tasks_of_open_slots(self):
        desk = Desk(belt())
        for wish in (EMPTY, Wish(((),), ({},)), turns(), Wish((((("take",), False),),), ({"take": 0},)),
                     Wish((((("get",), False),),), ({"get": 0},)).lively()):
            self.refuses("left", "task", desk.task, "left", wish)
        # There are offers with other actions, too; but some part with actions of the slot alone keeps it.
        desk.task("left", free_wish(("put", "take")))
        desk.task("left", Wish((((("get", "take"), False), (("put",), False)), (((), True),)), ({"get": 0, "put": 1, "take": 0}, {})))
        self.refuses("left", "task", desk.put, "left", Part(({"put": 0},)))
        self.refuses("left", "task", desk.task, "left", Wish((((("get", "take"), False),),), ({"get": 0, "take": 0},)))
        desk.put("left", Part(({"put": 1}, {}), (1,)))

    def test_whole_keeps_all_wishes(self):
        desk = right()
        self.refuses("turns", "broken", desk.put, "right", ONCE)
        self.refuses("a", "broken", desk.wish, "a", few())
        self.refuses("turns", "broken", desk.wish, "turns", EMPTY)
        desk.wish("a", BELT_WISH)
        desk.wish("b", turns().lively())
        self.refuses("b", "broken", desk.put, "right", ONCE)
        self.assertEqual([desk["right"], list(desk.wishes), steps_back(desk)], [TAKE, ["a", "b", "turns"], (5, 0)])
        desk.unwish("b")
        self.refuses("turns", "broken", desk.put, "right", ONCE)
        desk.unwish("turns")
        desk.put("right", ONCE)

    def test_the_only_open_slot(self):
        desk = Desk(belt())
        desk.wish("turns", turns())
        self.refuses("right", "open", desk.put, "left", Part(({},)))
        desk.put("left", turn())
        self.refuses("right", "open", desk.wish, "more", few())
        self.refuses("right", "open", desk.task, "right", Wish((((("take",), False),), (((), False),)), ({"take": 1}, {})))
        desk.task("right", free_wish(("take",)))
        self.refuses("right", "open", desk.wish, "turns", EMPTY)
        desk.put("right", TAKE)
        desk.take("left")
        self.assertEqual(desk.open_slots, ("left",))
        self.refuses("left", "open", desk.put, "right", Part(({},)))
        self.refuses("left", "open", desk.task, "left", Wish((((("put",), False),), ((("get",), False),)), ({"put": 1}, {"get": 0})))

    def test_what_both_wishes_ask_for(self):
        # Each of the wishes can be kept for itself, and both cannot.
        desk = Desk(belt())
        desk.put("right", TAKE)
        first = Wish((((("put",), True),), ((("take",), False),)), ({"put": 1}, {"take": 0}))
        second = Wish((((("put",), True),), ((("put",), False), (("put",), True))), ({"put": 1}, {"put": 1}))
        desk.wish("a", second)
        self.refuses("left", "open", desk.wish, "b", first)
        desk.unwish("a")
        desk.wish("b", first)
        self.refuses("left", "open", desk.wish, "a", second)

    def test_two_open_slots(self):
        # With two open slots nothing is asked of the whole.
        desk = Desk(belt())
        desk.wish("no", EMPTY)
        desk.wish("few", few())
        self.refuses("right", "open", desk.put, "left", turn())
        desk.unwish("no")
        self.refuses("right", "open", desk.put, "left", turn())
        desk.unwish("few")
        desk.put("left", turn())

    def test_order_of_reasons(self):
        desk = right()
        desk.task("left", free_wish(("get", "put")))
        # The task of the first slot, then that of the second one, then the first wish.
        for slot in ("right", "left"):
            self.refuses(slot, "task", desk.task, slot, EMPTY)
        desk.task("right", must())
        self.refuses("right", "task", desk.put, "right", ONCE)
        desk.untask("right")
        desk.wish("a", turns())
        self.refuses("a", "broken", desk.put, "right", ONCE)
        desk.take("right")
        desk.task("right", must())
        self.refuses("left", "task", desk.task, "left", EMPTY)
        self.refuses("right", "task", desk.task, "right", EMPTY)
        self.refuses("right", "open", desk.put, "left", Part(({},)))
        desk.undo(many=2)
        desk.task("right", free_wish(("take",)))
        desk.take("left")
        self.refuses("left", "open", desk.put, "right", Part(({},)))

    def test_take_unwish_and_untask(self):
        desk = right()
        desk.task("right", must())
        desk.task("left", free_wish(("get", "put")))
        for slot in ("right", "left"):
            desk.take(slot)
        desk.unwish("turns")
        desk.untask("right")
        desk.untask("left")
        self.assertEqual([desk == Desk(belt()), steps_back(desk)], [True, (10, 0)])

    def test_joints_without_slots(self):
        joint = filled(filled(belt(), "left", turn()), "right", TAKE)
        desk = Desk(joint)
        self.assertEqual([desk.open_slots, desk.whole, str(desk)],
                         [(), joint({}), "desk of 0 slots, 0 open, 0 wishes"])
        desk.wish("turns", turns())
        self.refuses("few", "broken", desk.wish, "few", few())
        self.changes_nothing(desk, UnknownName, desk.put, "left", turn())
        with self.assertRaises(UnknownName):
            desk.need("left")

    def test_the_only_slot(self):
        desk = Desk(filled(belt(), "left", turn()))
        self.assertEqual(desk.open_slots, ("right",))
        self.assertTrue(keep_same(desk.need("right"), free_wish(("take",))))
        desk.wish("turns", turns())
        self.refuses("right", "open", desk.wish, "few", few())
        self.assertTrue(keep_same(desk.need("right"), must()))
        self.refuses("turns", "broken", desk.put, "right", ONCE)
        desk.put("right", TAKE)

    def test_more_slots(self):
        joint = nested(belt(), "right", Joint({"a": ("go",), "b": ("go",), "c": ()}, (
            {"take": ({"a": "go"}, 1)}, {"take": ({"b": "go"}, 0)}), (("a", "b"), ("c",))))
        desk = Desk(joint)
        desk.wish("turns", turns())
        go = Part(({"go": 0},))
        for slot, part in (("a", go), ("c", Part(({},))), ("left", turn())):
            desk.put(slot, part)
        self.assertEqual([desk.open_slots, str(desk)], [("b",), "desk of 4 slots, 1 open, 1 wishes"])
        self.refuses("turns", "broken", desk.put, "b", Part(({},)))
        desk.put("b", go)
        self.assertTrue(keeps(desk.whole, turns()))


class Forty(DeskCase):
    def test_too_many_standings(self):
        desk = Desk(in_step("xy"))
        desk.wish("eight", going(8))
        self.assertEqual(self.changes_nothing(desk, TooMany, desk.put, "y", ring(7)).limit, 40)
        with self.assertRaises(TooMany) as caught:
            desk.can_put("y", ring(7))
        self.assertEqual(caught.exception.limit, 40)
        desk.put("y", ring(5))
        self.changes_nothing(desk, TooMany, desk.put, "y", ring(7))
        self.changes_nothing(desk, TooMany, desk.wish, "more", going(8) & going(3))
        desk.put("x", ring(1))
        desk.put("y", ring(7))
        self.changes_nothing(desk, TooMany, desk.take, "x")
        desk.take("y")
        self.assertTrue(keeps(ring(7), desk.need("y")))

    def test_wishes_on_a_whole_with_one_open_slot(self):
        desk = Desk(in_step("xy"))
        desk.put("y", ring(7))
        desk.wish("a", going(5))
        self.changes_nothing(desk, TooMany, desk.wish, "b", going(8))
        self.changes_nothing(desk, TooMany, desk.wish, "a", going(8))
        self.assertTrue(desk.need("x").allows(("a",) * 30, (("a",), False)))

    def test_ahead_of_refusals(self):
        desk = Desk(in_step("xy"))
        desk.wish("eight", going(8))
        desk.task("y", going(3))
        stop = Part(tuple({"a": (state + 1)} for state in range(7)) + ({},))
        self.refuses("y", "task", desk.put, "y", stop)
        resting = Part(tuple({"a": (state + 1) % 7} for state in range(7)), (0,))
        self.changes_nothing(desk, TooMany, desk.put, "y", resting)
        desk.wish("few", few())
        self.changes_nothing(desk, TooMany, desk.put, "y", ring(7))
        self.refuses("x", "open", desk.put, "y", ring(5, ()))
        self.refuses("y", "open", desk.put, "x", ring(1))

    def test_behind_the_errors_of_arguments(self):
        desk = Desk(in_step("xy"))
        for name in "abc":
            desk.wish(name, going(8))
        self.changes_nothing(desk, InvalidPart, desk.put, "y", TAKE)
        self.changes_nothing(desk, TooMany, desk.put, "y", ring(7))
        desk.put("y", ring(5))
        self.assertEqual(self.changes_nothing(desk, TooMany, desk.wish, "d", going(7)).limit, 3)
        self.assertEqual(self.changes_nothing(desk, TooMany, desk.wish, "c", going(7) & going(5) & going(8)).limit, 40)


class Needed(DeskCase):
    def test_example(self):
        desk = Desk(belt())
        desk.wish("turns", turns())
        desk.put("left", turn())
        self.assertTrue(keep_same(desk.need("right"), must()))
        self.assertEqual([desk.can_put("right", TAKE), desk.can_put("right", ONCE)], [True, False])
        self.assertFalse(desk.need("right").has_goals)

    def test_goals_only_where_there_are_some(self):
        desk = Desk(belt())
        desk.put("left", turn())
        self.assertEqual([desk.need("right").has_goals, desk.need("right").actions], [False, ("take",)])
        desk.task("right", free_wish(("put", "take")))
        self.assertEqual([desk.need("right").has_goals, desk.need("right").actions], [False, ("take",)])
        desk.task("right", free_wish(("take",)).lively())
        self.assertFalse(keeps(TAKE, desk.need("right")))
        self.assertTrue(keeps(Part(({"take": 0},), (0,)), desk.need("right")))

    def test_wrong(self):
        desk = Desk(belt())
        for value in values_of_every_kind():
            with self.assertRaises(UnknownName, msg=value) as caught:
                desk.need(value)
            self.assertIs(caught.exception.name, value)
        for slot in ("left", "right"):
            with self.assertRaises(InvalidOperation):
                desk.need(slot)
        desk.put("left", turn())
        with self.assertRaises(InvalidOperation):
            desk.need("left")
        desk.need("right")
        desk.put("right", TAKE)
        for slot in ("left", "right"):
            with self.assertRaises(InvalidOperation):
                desk.need(slot)

    def test_a_part_can_be_put_exactly_if_it_keeps_the_need(self):
        source = random.Random(1)
        found = {True: 0, False: 0}
        for desk in some_desks(source, 120):
            if len(desk.open_slots) != 1:
                continue
            slot, = desk.open_slots
            need = desk.need(slot)
            names = desk.joint.slots[slot]
            self.assertLessEqual(set(need.actions), set(names))
            if not any(wish.has_goals for wish in [*desk.wishes.values(), *desk.tasks.values()]):
                self.assertFalse(need.has_goals)
            for table in small_parts(names) + [some_fillings(source, {"a": names})["a"] for _ in range(3)]:
                fits = is_right(desk.joint, {**desk.parts, slot: part_of(table)}, desk.wishes, desk.tasks)
                found[fits] += 1
                self.assertEqual(does_keep(table, tables_of(need)), fits)
                self.assertIs(desk.can_put(slot, part_of(table)), fits)
                self.assertEqual(desk.open_slots, (slot,))
                if fits:
                    twin = desk.twin()
                    twin.put(slot, part_of(table))
                else:
                    with self.assertRaises(Refused):
                        desk.put(slot, part_of(table))
        self.assertGreater(min(found.values()), 80)


def limited_to(wish, names):
    """The tables of a wish with just the offers that have no other actions."""
    tables = tables_of(wish)
    if not tables[0]:
        return tables
    return plain_limited(tables, [tuple(offer for offer in row if set(offer[0]) <= set(names)) for row in tables[0]])


def is_right(joint, parts, wishes, tasks):
    """Whether (a) to (d) hold, clause by clause."""
    return first_reason(joint, parts, wishes, tasks) is None


def first_reason(joint, parts, wishes, tasks):
    """The error by which a change to this would be refused, or None."""
    slots = joint.slots
    empty = [slot for slot in slots if slot not in parts]
    missing = []
    if len(empty) == 1:
        try:
            missing = [missing_wish(joint, empty[0], wish, parts) for wish in wishes.values()]
        except TooMany:
            return TooMany
    for slot in sorted(tasks):
        stands = does_keep(table_of(parts[slot]), tables_of(tasks[slot])) if slot in parts else \
            can_be_kept(limited_to(tasks[slot], slots[slot]))
        if not stands:
            return slot, "task"
    if not empty:
        whole = plain_whole(tables_of_joint(joint), {slot: table_of(part) for slot, part in parts.items()})
        for name in sorted(wishes):
            if not does_keep(whole, tables_of(wishes[name])):
                return name, "broken"
    if len(empty) == 1:
        need = free_wish(slots[empty[0]])
        for wish in [*missing, *([tasks[empty[0]]] if empty[0] in tasks else [])]:
            need = need & wish
        if not can_be_kept(tables_of(need)):
            return empty[0], "open"
    return None


def some_change(source, desk, joint):
    """The name of a method, its arguments, and the parts, wishes and tasks that would follow."""
    parts, wishes, tasks = desk.parts, desk.wishes, desk.tasks
    slot = source.choice(sorted(joint[0]))
    kind = source.choice(("put", "put", "put", "take", "wish", "wish", "unwish", "task", "untask"))
    if kind == "put":
        part = part_of(source.choice(small_parts(joint[0][slot])[1:]))
        return kind, (slot, part), ({**parts, slot: part}, wishes, tasks)
    if kind == "take" and parts:
        slot = source.choice(sorted(parts))
        return kind, (slot,), ({name: part for name, part in parts.items() if name != slot}, wishes, tasks)
    if kind == "unwish" and wishes:
        name = source.choice(sorted(wishes))
        return kind, (name,), (parts, {other: wish for other, wish in wishes.items() if other != name}, tasks)
    if kind == "untask" and tasks:
        slot = source.choice(sorted(tasks))
        return kind, (slot,), (parts, wishes, {name: wish for name, wish in tasks.items() if name != slot})
    if kind == "task":
        actions = "".join(joint[0][slot]) or "a"
        wish = wish_of(generous(source, some_wish(source, actions, source.choice((1, 2)), source.choice((0, 1)))))
        return kind, (slot, wish), (parts, wishes, {**tasks, slot: wish})
    name = source.choice("mno")
    wish = wish_of(generous(source, some_wish(source, "xy", source.choice((1, 2)), source.choice((0, 0, 1)))))
    return "wish", (name, wish), (parts, {**wishes, name: wish}, tasks)


def some_desks(source, many):
    """Desks behind some changes."""
    for _ in range(many):
        joint = some_joint(source, names=("left", "right"), inner="ab", outer="xy")
        desk = Desk(joint_of(joint))
        for _ in range(source.randint(1, 8)):
            kind, more, _ = some_change(source, desk, joint)
            try:
                getattr(desk, kind)(*more)
            except (Refused, TooMany):
                pass
        yield desk


class Histories(DeskCase):
    def test_drawn_changes(self):
        source = random.Random(2)
        outcomes = {}
        for _ in range(60):
            joint = some_joint(source, inner="ab", outer="xy")
            desk = Desk(joint_of(joint))
            states, at = [({}, {}, {})], 0
            for _ in range(14):
                if source.random() < 0.25:
                    at = self.back_or_again(source, desk, states, at)
                else:
                    kind, more, after = some_change(source, desk, joint)
                    reason = first_reason(desk.joint, *after)
                    outcomes[kind, reason if reason is None or reason is TooMany else reason[1]] = True
                    if reason is None:
                        self.assertIsNone(getattr(desk, kind)(*more))
                        states, at = states[:at + 1] + [after], at + 1
                    elif reason is TooMany:
                        self.changes_nothing(desk, TooMany, getattr(desk, kind), *more)
                    else:
                        error = self.changes_nothing(desk, Refused, getattr(desk, kind), *more)
                        self.assertEqual((error.name, error.reason), reason)
                self.assertEqual((desk.parts, desk.wishes, desk.tasks), states[at])
                self.assertTrue(is_right(desk.joint, *states[at]))
        self.assertLessEqual({(kind, None) for kind in ("put", "take", "wish", "unwish", "task", "untask")}, set(outcomes))
        self.assertLessEqual({("put", reason) for reason in ("task", "broken", "open")} | {
            ("wish", "broken"), ("wish", "open"), ("task", "task"), ("task", "open")}, set(outcomes))
        self.assertFalse([kind for kind in outcomes if kind[0] in ("take", "unwish", "untask") and kind[1] is not None])

    def back_or_again(self, source, desk, states, at):
        many = source.randint(0, 3)
        if source.random() < 0.6:
            if many <= at:
                self.assertEqual(desk.undo(many=many), at - many)
                return at - many
            self.assertEqual(self.changes_nothing(desk, NothingToUndo, desk.undo, many=many).many, many)
            return at
        if many <= len(states) - 1 - at:
            self.assertEqual(desk.redo(many=many), at + many)
            return at + many
        self.assertEqual(self.changes_nothing(desk, NothingToUndo, desk.redo, many=many).many, many)
        return at

    def test_back_and_again(self):
        desk = right()
        self.assertEqual([desk.undo(), desk.open_slots, desk.undo(), desk.open_slots], [2, ("right",), 1, ("left", "right")])
        self.assertEqual([desk.redo(many=2), desk == right(), desk.undo(many=3), desk == Desk(belt())], [3, True, 0, True])
        self.assertEqual([desk.redo(), desk.wishes, desk.redo(), desk.redo()], [1, {"turns": turns()}, 2, 3])
        self.assertEqual([desk.undo(many=0), desk.redo(many=0), desk == right()], [3, 3, True])
        self.assertEqual(self.changes_nothing(desk, NothingToUndo, desk.redo).many, 1)
        self.assertEqual(self.changes_nothing(desk, NothingToUndo, desk.undo, many=4).many, 4)
        desk.undo(many=2)
        self.assertEqual(self.changes_nothing(desk, NothingToUndo, desk.redo, many=3).many, 3)
        self.assertEqual(self.changes_nothing(desk, NothingToUndo, desk.undo, many=2).many, 2)
        self.assertEqual(steps_back(desk), (1, 2))

    def test_other_changes_end_what_can_be_done_again(self):
        desk = right()
        desk.undo(many=2)
        self.refuses("right", "open", desk.put, "left", Part(({},)))
        self.changes_nothing(desk, UnknownName, desk.take, "left")
        self.assertEqual(steps_back(desk), (1, 2))
        desk.wish("turns", turns())
        self.assertEqual(steps_back(desk), (2, 0))
        desk.undo()
        self.assertEqual(steps_back(desk), (1, 1))

    def test_order_of_several_again(self):
        desk = Desk(belt())
        for name in ("a", "b", "c"):
            desk.wish(name, turns())
        desk.undo(many=3)
        seen = []
        for _ in range(3):
            desk.redo()
            seen.append(list(desk.wishes))
        self.assertEqual(seen, [["a"], ["a", "b"], ["a", "b", "c"]])
        desk.undo(many=2)
        desk.undo()
        desk.redo(many=2)
        self.assertEqual([list(desk.wishes), steps_back(desk)], [["a", "b"], (2, 1)])

    def test_wrong_numbers(self):
        for value in values_of_every_kind():
            right_number = isinstance(value, int) and not isinstance(value, bool) and value >= 0
            for desk in (right(), Desk(belt())):
                for call in (desk.undo, desk.redo):
                    if not right_number:
                        error = self.changes_nothing(desk, InvalidNumber, call, many=value)
                        self.assertIs(error.value, value)
                    elif value > 3:
                        self.assertEqual(self.changes_nothing(desk, NothingToUndo, call, many=value).many, value)
        with self.assertRaises(TypeError):
            right().undo(1)
        with self.assertRaises(TypeError):
            right().redo(1)


class Attempts(DeskCase):
    def test_a_block(self):
        desk = right()
        desk.undo()
        before = told(desk), steps_back(desk)
        with desk.attempt() as same:
            self.assertIs(same, desk)
            same.put("right", TAKE)
            desk.wish("more", turns())
            self.assertEqual(steps_back(desk), (4, 0))
        self.assertEqual((told(desk), steps_back(desk)), before)
        self.assertEqual([desk.redo(), desk["right"]], [3, TAKE])

    def test_a_block_with_changes_taken_back(self):
        desk = right()
        desk.undo()
        for many in (0, 1, 2):
            with desk.attempt():
                desk.undo(many=many)
                self.assertEqual(steps_back(desk), (2 - many, 1 + many))
            self.assertEqual(steps_back(desk), (2, 1))
        with desk.attempt():
            desk.redo()
            desk.take("left")
        self.assertEqual([steps_back(desk), list(desk)], [(2, 1), ["left"]])

    def test_a_block_that_an_error_ends(self):
        desk = right()
        before = told(desk), steps_back(desk)
        with self.assertRaises(KeyError) as caught:
            with desk.attempt():
                desk.take("left")
                raise KeyError("mine")
        self.assertEqual(caught.exception.args, ("mine",))
        self.assertEqual((told(desk), steps_back(desk)), before)
        with self.assertRaises(Refused):
            with desk.attempt():
                desk.take("left")
                desk.take("right")
                desk.put("left", Part(({},)))
        self.assertEqual((told(desk), steps_back(desk)), before)

    def test_blocks_in_blocks(self):
        desk = right()
        with desk.attempt():
            desk.take("left")
            with desk.attempt():
                desk.take("right")
                self.assertEqual(len(desk), 0)
            self.assertEqual([list(desk), steps_back(desk)], [["right"], (4, 0)])
        self.assertEqual([list(desk), steps_back(desk)], [["left", "right"], (3, 0)])

    def test_one_attempt_twice(self):
        desk = right()
        attempt = desk.attempt()
        with attempt:
            desk.take("left")
            with attempt:
                desk.take("right")
            self.assertEqual(list(desk), ["right"])
        self.assertEqual(list(desk), ["left", "right"])
        desk.unwish("turns")
        with attempt:
            desk.take("left")
        self.assertEqual([list(desk), desk.wishes], [["left", "right"], {}])

    def test_entered_later(self):
        desk = right()
        attempt = desk.attempt()
        desk.unwish("turns")
        with attempt:
            desk.take("left")
        self.assertEqual([list(desk), desk.wishes, steps_back(desk)], [["left", "right"], {}, (4, 0)])

    def test_during(self):
        desk = right()
        before = told(desk), steps_back(desk)
        self.assertIsNone(desk.during(lambda same: same.take("left")))
        self.assertEqual(desk.during(lambda same: (same is desk, same.undo(many=2), len(same))), (True, 1, 0))
        self.assertEqual(desk.during(lambda same: same.during(lambda again: (again.take("left"), len(again))) + (len(same),)),
                         (None, 1, 2))
        with self.assertRaises(UnknownName):
            desk.during(lambda same: (same.take("left"), same.take("left")))
        self.assertEqual((told(desk), steps_back(desk)), before)

    def test_twins(self):
        desk = right()
        desk.undo()
        twin = desk.twin()
        self.assertIsNot(twin, desk)
        self.assertEqual([twin == desk, steps_back(twin)], [True, (2, 1)])
        twin.redo()
        self.assertEqual([len(twin), len(desk), steps_back(desk)], [2, 1, (2, 1)])
        desk.take("left")
        self.assertEqual([len(twin), len(desk), steps_back(twin), steps_back(desk)], [2, 0, (3, 0), (3, 0)])
        with desk.attempt():
            other = desk.twin()
            desk.wish("more", turns())
            inside = desk.twin()
        self.assertEqual([other == desk, len(inside.wishes), len(desk.wishes)], [True, 2, 1])
        self.assertEqual([inside.undo(), inside == desk], [3, True])


if __name__ == "__main__":
    unittest.main()
