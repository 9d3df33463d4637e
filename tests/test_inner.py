"""Joints compared, filled and nested."""

import random
import unittest

from tests.helpers import are_alike_tables, are_same, plain_words, ring, turn, values_of_every_kind
from tests.joining import belt, changed_joint, doubled, is_least_joint, joint_of, plain_difference, plain_whole
from tests.joining import right_joint, small_parts, some_fillings, some_joints, tables_of_joint
from tests.wishing import part_of, table_of
from whatparts.core.parts import Part
from whatparts.errors import InvalidJoint, InvalidOperation, InvalidPart, UnknownName
from whatparts.glue import inner
from whatparts.glue.inner import are_alike_joints, filled, joint_difference, least_joint, nested, parting_parts
from whatparts.glue.joints import Joint

NAMES = ("joint_difference", "are_alike_joints", "least_joint", "parting_parts", "filled", "nested")


def pair():
    """The joint PAIR of the document: BELT with its mode twice."""
    return Joint(belt().slots, ({"put": ({"left": "put"}, 1), "take": ({"left": "get", "right": "take"}, 1)},
                                {"put": ({"left": "put"}, 0), "take": ({"left": "get", "right": "take"}, 0)}),
                 (("left",), ("left",)))


def two_inside():
    """The joint INNER of the document."""
    return Joint({"a": ("go",), "b": ("go",)}, ({"take": ({"a": "go"}, 1)}, {"take": ({"b": "go"}, 0)}),
                 (("a", "b"), None))


def without_slots(rests=((),), rules=({"x": 0},)):
    """A joint that has no slots, as functions return it."""
    joint = Joint({"a": ("go",)}, tuple({action: ({}, mode) for action, mode in row.items()} for row in rules), rests)
    return filled(joint, "a", Part(({},), (0,)))


def some_pairs_of_joints(many, seed):
    """Pairs of tables of joints with the same slots, a fair share of which has no difference."""
    source = random.Random(seed)
    found = []
    for joint in some_joints(many, seed, outer="xy", names=("left", "right")):
        joint = joint[0], joint[1][:2], joint[2][:2]
        joint = joint[0], tuple({action: (needs, goal % len(joint[1])) for action, (needs, goal) in row.items()}
                                for row in joint[1]), joint[2]
        other = doubled(source, joint)
        found += [(joint, other), (joint, changed_joint(source, other)), (changed_joint(source, joint), other)]
    return found


class Interface(unittest.TestCase):
    def test_all_stands_where_it_is_listed(self):
        for name in NAMES:
            self.assertEqual(vars(inner)[name].__module__, "whatparts.glue.inner")


class Differences(unittest.TestCase):
    def test_examples(self):
        self.assertIs(are_alike_joints(belt(), pair()), True)
        self.assertIsNone(joint_difference(belt(), pair()))
        self.assertEqual(joint_difference(belt(), Joint(belt().slots, belt().rules, (None,))), ())
        self.assertIs(are_alike_joints(belt(), Joint(belt().slots, belt().rules, (None,))), False)

    def test_what_makes_modes_differ(self):
        slots = {"a": ("x", "y"), "b": ("x",)}
        free = ({"go": ({}, 1)}, {"go": ({"a": "x"}, 0)})
        one = Joint(slots, free, ((), ("a",)))
        for rules, rests, word in ((free, ((), ("a",)), None), (free, (None, ("a",)), ()), (free, (("a",), ("a",)), ()),
                                   (free, ((), ("b",)), ("go",)), (free, ((), None), ("go",)), (free, ((), ()), ("go",)),
                                   ((free[0], {"go": ({"a": "y"}, 0)}), ((), ("a",)), ("go",)),
                                   ((free[0], {"go": ({}, 0)}), ((), ("a",)), ("go",)),
                                   ((free[0], {"go": ({"a": "x", "b": "x"}, 0)}), ((), ("a",)), ("go",)),
                                   ((free[0], {"go": ({"b": "x"}, 0)}), ((), ("a",)), ("go",)),
                                   ((free[0], {"no": ({"a": "x"}, 0)}), ((), ("a",)), ("go",)),
                                   ((free[0], {}), ((), ("a",)), ("go",)),
                                   ((free[0], {"go": ({"a": "x"}, 0), "no": ({}, 0)}), ((), ("a",)), ("go",)),
                                   ((free[0], {"go": ({"a": "x"}, 1)}), ((), ("a",)), ("go", "go")),
                                   (({"go": ({}, 0)}, {}), ((), None), ("go",))):
            other = Joint(slots, rules, rests)
            self.assertEqual([joint_difference(one, other), joint_difference(other, one)], [word, word])
            self.assertIs(are_alike_joints(one, other), word is None)

    def test_modes_that_no_word_reaches_do_not_count(self):
        one = Joint({"a": ()}, ({"go": ({}, 0)}, {"no": ({}, 0)}), ((), None))
        other = Joint({"a": ()}, ({"go": ({}, 2)}, {}, {"go": ({}, 0)}), ((), ("a",), ()))
        self.assertTrue(are_alike_joints(one, other))
        self.assertEqual(least_joint(one), least_joint(other))

    def test_the_first_of_equally_long_words(self):
        slots = {"a": ("x",)}
        row = {"p": ({}, 1), "q": ({}, 2), "r": ({}, 0)}
        one = Joint(slots, (row, {}, {}), (None, (), ()))
        other = Joint(slots, (row, {}, {}), (None, ("a",), ("a",)))
        self.assertEqual(joint_difference(one, other), ("p",))
        self.assertEqual(joint_difference(one, Joint(slots, (row, {}, {}), (None, (), ("a",)))), ("q",))

    def test_against_all_words(self):
        found = {}
        words = plain_words("xy", 8)
        for one, other in some_pairs_of_joints(60, 3):
            word = joint_difference(joint_of(one), joint_of(other))
            self.assertEqual(word, plain_difference(one, other, words), (one, other))
            self.assertIs(are_alike_joints(joint_of(one), joint_of(other)), word is None)
            length = None if word is None else len(word)
            found[length] = found.get(length, 0) + 1
        self.assertGreater(min(found[None], found[0], found[1]), 5)
        self.assertGreater(found[None], 40)

    def test_joints_without_slots(self):
        for one, other, word in ((without_slots(), without_slots(), None), (without_slots(), without_slots((None,)), ()),
                                 (without_slots(), without_slots(rules=({},)), ()),
                                 (without_slots(), without_slots(rules=({"x": 1}, {}), rests=((), ())), ("x",))):
            self.assertEqual([joint_difference(one, other), joint_difference(other, one)], [word, word])
            self.assertEqual(parting_parts(one, other), None if word is None else {})

    def test_wrong(self):
        for function in (joint_difference, are_alike_joints, parting_parts):
            for value in values_of_every_kind():
                if isinstance(value, Joint):
                    with self.assertRaises(InvalidOperation):
                        function(belt(), value)
                    continue
                for other in (belt(), value, two_inside(), None):
                    with self.assertRaises(InvalidJoint, msg=value):
                        function(value, other)
                with self.assertRaises(InvalidJoint, msg=value):
                    function(belt(), value)
            for slots in ({"left": ("get", "put")}, {"left": ("get", "put"), "right": ("give",)},
                          {"left": ("get", "put"), "right": ()}, {"left": ("get", "put"), "write": ("take",)},
                          {"left": ("get", "put"), "right": ("take",), "x": ()}):
                other = Joint(slots, ({},), (None,))
                for one, two in ((belt(), other), (other, belt()), (other, without_slots()), (without_slots(), other)):
                    with self.assertRaises(InvalidOperation, msg=slots):
                        function(one, two)


class Least(unittest.TestCase):
    def test_examples(self):
        self.assertEqual(least_joint(pair()), belt())
        self.assertEqual(least_joint(belt()), belt())

    def test_numbered_by_first_words(self):
        joint = Joint({"a": ("x",)}, ({"q": ({}, 1), "p": ({}, 3)}, {"p": ({"a": "x"}, 2)}, {}, {"q": ({}, 2)}),
                      (None, (), None, ("a",)))
        self.assertEqual(least_joint(joint), Joint(
            {"a": ("x",)}, ({"q": ({}, 2), "p": ({}, 1)}, {"q": ({}, 3)}, {"p": ({"a": "x"}, 3)}, {}),
            (None, ("a",), (), None)))

    def test_fewest_modes_and_no_difference(self):
        smaller = 0
        words = plain_words("xy", 8)
        for one, other in some_pairs_of_joints(60, 4):
            for joint in (one, other):
                made = least_joint(joint_of(joint))
                self.assertTrue(right_joint(made))
                self.assertTrue(is_least_joint(tables_of_joint(made)))
                self.assertEqual(made.slots, joint[0])
                self.assertIsNone(plain_difference(joint, tables_of_joint(made), words))
                self.assertEqual(least_joint(made), made)
                smaller += len(made) < len(joint[1])
        self.assertGreater(smaller, 100)

    def test_equal_exactly_without_difference(self):
        for one, other in some_pairs_of_joints(60, 5):
            first, second = joint_of(one), joint_of(other)
            self.assertEqual(least_joint(first) == least_joint(second), joint_difference(first, second) is None)

    def test_wrong(self):
        for value in values_of_every_kind():
            if not isinstance(value, Joint):
                with self.assertRaises(InvalidJoint, msg=value):
                    least_joint(value)


class Parting(unittest.TestCase):
    def are_parted(self, one, other, parts):
        self.assertEqual(list(parts), sorted(one[0]))
        for slot, part in parts.items():
            self.assertIsInstance(part, Part)
            self.assertLessEqual(set(part.actions), set(one[0][slot]))
        tables = {slot: table_of(part) for slot, part in parts.items()}
        self.assertFalse(are_alike_tables(plain_whole(one, tables), plain_whole(other, tables)), (one, other, parts))

    def test_unlike_wholes(self):
        parted = 0
        for one, other in some_pairs_of_joints(90, 6):
            parts = parting_parts(joint_of(one), joint_of(other))
            self.assertEqual(parts is None, are_alike_joints(joint_of(one), joint_of(other)))
            if parts is not None:
                parted += 1
                self.are_parted(one, other, parts)
        self.assertGreater(parted, 60)

    def test_each_kind_of_difference(self):
        slots = {"a": ("x", "y"), "b": ("x",)}
        rows = [{"go": (needs, 0)} for needs in ({}, {"a": "x"}, {"a": "y"}, {"b": "x"}, {"a": "x", "b": "x"},
                                                 {"a": "y", "b": "x"})]
        rows += [{}, {"no": ({"a": "x"}, 0)}, {"go": ({"a": "x"}, 0), "no": ({"b": "x"}, 0)}]
        modes = [(row, rests) for row in rows for rests in (None, (), ("a",), ("b",), ("a", "b"))]
        for row, rests in modes:
            for beside, other in modes:
                if (row, rests) != (beside, other):
                    first = {"in": ({"a": "y"}, 1)}
                    joints = [(slots, (first, row), (None, rests)), (slots, (first, beside), (None, other))]
                    self.are_parted(*joints, parting_parts(*[joint_of(joint) for joint in joints]))

    def test_alike_wholes_with_all_parts(self):
        source = random.Random(7)
        for one, other in some_pairs_of_joints(12, 7):
            if not are_alike_joints(joint_of(one), joint_of(other)):
                continue
            for _ in range(6):
                tables = some_fillings(source, one[0])
                self.assertTrue(are_alike_tables(plain_whole(one, tables), plain_whole(other, tables)))
                parts = {slot: part_of(table) for slot, table in tables.items()}
                self.assertEqual(joint_of(one)(parts).least(), joint_of(other)(parts).least())

    def test_long_words(self):
        rounds = ({"go": ({"a": "x"}, 1)}, {"go": ({"a": "x"}, 2)}, {"go": ({"a": "x"}, 3)}, {"go": ({"a": "x"}, 0)})
        one = Joint({"a": ("x",)}, rounds, ((), None, None, None))
        other = Joint({"a": ("x",)}, (*rounds[:2], {"go": ({"a": "x"}, 0)}), ((), None, None))
        self.assertEqual(joint_difference(one, other), ("go",) * 3)
        self.are_parted(tables_of_joint(one), tables_of_joint(other), parting_parts(one, other))
        both = Joint({"a": ("x",), "b": ("a",)}, ({"go": ({"a": "x", "b": "a"}, 0)},), (("a", "b"),))
        one, other = filled(both, "b", ring(7)), filled(both, "b", ring(7) & ring(8))
        self.assertEqual(joint_difference(one, other), ("go",) * 7)
        self.are_parted(tables_of_joint(one), tables_of_joint(other), parting_parts(one, other))


class Filled(unittest.TestCase):
    def test_examples(self):
        made = filled(belt(), "left", turn())
        self.assertEqual(made.slots, {"right": ("take",)})
        self.assertEqual(made.seen("right", ("put", "take", "put")), ("take",))
        self.assertIsNone(made.after(("put", "put")))

    def test_wholes_are_alike(self):
        source = random.Random(8)
        for joint in some_joints(150, 8):
            tables = some_fillings(source, joint[0])
            slot = source.choice(sorted(joint[0]))
            made = filled(joint_of(joint), slot, part_of(tables[slot]))
            self.assertTrue(right_joint(made))
            self.assertEqual(made.slots, {name: names for name, names in joint[0].items() if name != slot})
            self.assertLessEqual(len(made), len(joint[1]) * len(tables[slot][0]))
            self.assertLessEqual(set(made.actions), set(joint_of(joint).actions))
            for _ in range(4):
                beside = {**some_fillings(source, made.slots), slot: tables[slot]}
                rest = {name: beside[name] for name in made.slots}
                whole = plain_whole(joint, beside)
                self.assertTrue(are_alike_tables(whole, plain_whole(tables_of_joint(made), rest)))
                self.assertTrue(are_alike_tables(whole, table_of(made({name: part_of(rest[name]) for name in rest}))))

    def test_rests(self):
        for must, rests, expected in ((None, (0,), None), ((), (), ()), (("a",), (0,), ()), (("a",), (), None),
                                      (("b",), (), ("b",)), (("a", "b"), (0,), ("b",)), (("a", "b"), (), None)):
            joint = Joint({"a": (), "b": ()}, ({},), (must,))
            self.assertEqual(tables_of_joint(filled(joint, "a", Part(({},), rests))), ({"b": ()}, ({},), (expected,)))

    def test_all_slots_one_by_one(self):
        source = random.Random(9)
        for joint in some_joints(60, 9):
            tables = some_fillings(source, joint[0])
            made = joint_of(joint)
            for slot in source.sample(sorted(joint[0]), len(joint[0])):
                made = filled(made, slot, part_of(tables[slot]))
            self.assertEqual(made.slots, {})
            self.assertTrue(are_alike_tables(plain_whole(joint, tables), table_of(made({}))))
            self.assertEqual(least_joint(made).slots, {})

    def test_parts_with_more_states(self):
        joint = Joint({"a": ("a",), "b": ("a",)}, ({"go": ({"a": "a", "b": "a"}, 0)},), (("a",),))
        made = filled(joint, "a", ring(7) & ring(8))
        self.assertEqual(len(least_joint(made)), 56)
        self.assertEqual(made.seen("b", ("go",) * 60), ("a",) * 60)
        whole = made({"b": ring(5)})
        self.assertEqual([len(whole.least()), len(whole)], [56, 280])
        self.assertTrue(filled(made, "b", ring(5))({}) == whole)

    def test_wrong(self):
        for value in values_of_every_kind():
            if not isinstance(value, Joint):
                for slot, part in (("left", turn()), ("left", None), (value, value)):
                    with self.assertRaises(InvalidJoint, msg=value):
                        filled(value, slot, part)
            for part in (turn(), None, value):
                with self.assertRaises(UnknownName, msg=value) as caught:
                    filled(belt(), value, part)
                self.assertIs(caught.exception.name, value)
            if not (isinstance(value, Part) and set(value.actions) <= {"get", "put"}):
                with self.assertRaises(InvalidPart, msg=value):
                    filled(belt(), "left", value)
        for part in (Part(({"take": 0},)), Part(({"get": 0}, {"take": 0})), Part(({"a": 0},))):
            with self.assertRaises(InvalidPart):
                filled(belt(), "left", part)
        with self.assertRaises(UnknownName):
            filled(filled(belt(), "left", turn()), "left", turn())


class Nested(unittest.TestCase):
    def test_examples(self):
        made = nested(belt(), "right", two_inside())
        self.assertEqual(made.slots, {"a": ("go",), "b": ("go",), "left": ("get", "put")})
        self.assertEqual(made.seen("b", ("put", "take", "put", "take")), ("go",))
        self.assertEqual(made.seen("a", ("put", "take", "put", "take")), ("go",))

    def check(self, joint, slot, other, source):
        made = nested(joint_of(joint), slot, joint_of(other))
        slots = {**{name: names for name, names in joint[0].items() if name != slot}, **other[0]}
        self.assertTrue(right_joint(made))
        self.assertEqual(made.slots, slots)
        self.assertLessEqual(len(made), len(joint[1]) * len(other[1]))
        self.assertLessEqual(set(made.actions), set(joint_of(joint).actions))
        for _ in range(3):
            tables = some_fillings(source, slots, 2)
            inside = plain_whole(other, {name: tables[name] for name in other[0]})
            whole = plain_whole(joint, {name: inside if name == slot else tables[name] for name in joint[0]})
            self.assertTrue(are_alike_tables(whole, plain_whole(tables_of_joint(made), tables)))
            self.assertTrue(are_alike_tables(whole, table_of(made({name: part_of(tables[name]) for name in tables}))))
        return made

    def test_wholes_are_alike(self):
        source = random.Random(10)
        names = set()
        for joint, other in zip(some_joints(120, 10), some_joints(120, 11, names=("d", "e", "f"), outer="abc")):
            slot = source.choice(sorted(joint[0]))
            full = {**joint[0], slot: ("a", "b", "c")}
            names.add(len(self.check((full, *joint[1:]), slot, other, source).slots))
        self.assertEqual(names, {1, 2, 3, 4, 5})

    def test_a_slot_of_both(self):
        source = random.Random(12)
        shared = 0
        for joint, other in zip(some_joints(80, 12), some_joints(80, 13, names=("in", "e"), outer="abc")):
            if "in" in joint[0]:
                shared += "in" in other[0]
                full = {**joint[0], "in": ("a", "b", "c")}
                self.check((full, *joint[1:]), "in", other, source)
        self.assertGreater(shared, 20)
        slots = {"left": ("get", "put"), "right": ("x",)}
        other = Joint({"right": ("x",)}, ({"take": ({"right": "x"}, 0)},), (None,))
        self.assertEqual(nested(belt(), "right", other).slots, slots)
        with self.assertRaises(InvalidOperation):
            nested(belt(), "left", Joint({"right": ("x",)}, ({"put": ({"right": "x"}, 0)},), (None,)))

    def test_rests(self):
        for must, inside, expected in ((None, ("c",), None), (None, None, None), ((), None, ()), ((), ("c",), ()),
                                       (("b",), None, ("b",)), (("a",), None, None), (("a", "b"), None, None),
                                       (("a",), (), ()), (("a",), ("c",), ("c",)), (("a",), ("c", "d"), ("c", "d")),
                                       (("a", "b"), ("c",), ("b", "c")), (("a", "b"), (), ("b",))):
            joint = Joint({"a": (), "b": ()}, ({},), (must,))
            made = nested(joint, "a", Joint({"c": (), "d": ()}, ({},), (inside,)))
            self.assertEqual(tables_of_joint(made), ({"b": (), "c": (), "d": ()}, ({},), (expected,)))

    def test_other_without_slots(self):
        made = nested(belt(), "left", filled(Joint({"a": ("x",)}, ({"put": ({"a": "x"}, 0)},), ((),)), "a",
                                             Part(({"x": 1}, {}))))
        self.assertEqual(made.slots, {"right": ("take",)})
        whole = made({"right": Part(({"take": 0},))})
        self.assertEqual([whole.steps, whole.rests], [({"put": 1}, {}), (0, 1)])

    def test_all_slots_nested(self):
        inside = Joint({"a": ("x",), "b": ("x",), "c": ("x",)}, tuple(
            {"go": ({name: "x"}, at)} for at, name in ((1, "a"), (2, "b"), (3, "c"), (0, "a"))), (("a",), None, (), ("c",)))
        outside = Joint({"d": ("go",), "e": ("go",), "f": ("go",)}, (
            {"x": ({"d": "go"}, 1)}, {"y": ({"e": "go"}, 2)}, {"z": ({"d": "go", "f": "go"}, 0)}), ((), ("d", "e"), ("f",)))
        made = outside
        for slot, names in (("d", ("a", "b", "c")), ("e", ("g", "h", "i")), ("f", ("j", "k", "l"))):
            made = nested(made, slot, inside.renamed_slots(dict(zip("abc", names))))
        self.assertEqual(len(made.slots), 9)
        parts = {slot: part_of(table) for slot, table in zip(made.slots, small_parts(("x",))[2:] * 3)}
        wholes = {}
        for slot, names in (("d", "abc"), ("e", "ghi"), ("f", "jkl")):
            wholes[slot] = inside({old: parts[new] for old, new in zip("abc", names)})
        self.assertEqual(made(parts).least(), outside(wholes).least())
        self.assertTrue(are_alike_joints(made, least_joint(made)))
        self.assertEqual([made.seen("a", ("x", "y", "z")), made.after(("x", "x"))], [("x",), None])
        self.assertEqual(str(made), f"joint of 9 slots, {len(made)} modes, {len(made)} rules")
        names = dict(zip(made.slots, "qrstuvwxy"))
        again = made.renamed_slots(names)
        self.assertEqual(again({names[slot]: part for slot, part in parts.items()}), made(parts))
        for wrong in ({}, dict(list(names.items())[1:]), {**names, "z": "a"}, dict.fromkeys(names, "a")):
            with self.assertRaises(InvalidOperation):
                made.renamed_slots(wrong)
        for wrong in ({}, dict(list(parts.items())[1:]), {**parts, "d": parts["a"]}):
            with self.assertRaises(InvalidOperation):
                made(wrong)
        with self.assertRaises(InvalidPart):
            made({**parts, "l": turn()})

    def test_no_slots(self):
        joint = without_slots()
        self.assertEqual([joint.slots, joint.renamed_slots({}), joint({})], [{}, joint, Part(({"x": 0},), (0,))])
        self.assertEqual([joint.after(("x", "x")), "a" in joint, str(joint)],
                         [0, False, "joint of 0 slots, 1 modes, 1 rules"])
        with self.assertRaises(UnknownName):
            joint.seen("a", ())
        for wrong in ({"a": turn()}, None, ()):
            with self.assertRaises(InvalidOperation):
                joint(wrong)
            with self.assertRaises(InvalidOperation):
                joint.renamed_slots(wrong)

    def test_wrong(self):
        for value in values_of_every_kind():
            if not isinstance(value, Joint):
                for slot, other in (("left", belt()), ("left", None), (value, value)):
                    with self.assertRaises(InvalidJoint, msg=value):
                        nested(value, slot, other)
                with self.assertRaises(InvalidJoint, msg=value):
                    nested(belt(), "left", value)
            for other in (two_inside(), None, value):
                with self.assertRaises(UnknownName, msg=value) as caught:
                    nested(belt(), value, other)
                self.assertIs(caught.exception.name, value)
        for slot, other in (("left", two_inside()), ("right", belt()),
                            ("right", Joint({"a": ()}, ({"take": ({}, 0)}, {"give": ({}, 0)}), (None, None))),
                            ("right", Joint({"left": ()}, ({"take": ({}, 0)},), (None,))),
                            ("right", Joint({"a": (), "left": ()}, ({},), (None,)))):
            with self.assertRaises(InvalidOperation):
                nested(belt(), slot, other)


class Kept(unittest.TestCase):
    def test_nothing_is_changed(self):
        one, other, part = pair(), two_inside(), turn()
        for call in (lambda: least_joint(one), lambda: joint_difference(one, belt()), lambda: filled(one, "left", part),
                     lambda: nested(one, "right", other), lambda: parting_parts(one, Joint(one.slots, ({},), (None,)))):
            self.assertTrue(are_same(call(), call()) or isinstance(call(), dict))
        for made in (least_joint(one), filled(one, "left", part), nested(one, "right", other)):
            made.slots.clear()
            for row in made.rules:
                row.clear()
        self.assertEqual([one, other, part], [pair(), two_inside(), turn()])

    def test_what_is_returned_can_be_changed(self):
        other = Joint(belt().slots, ({},), (None,))
        parts = parting_parts(belt(), other)
        before = dict(parts)
        parts.clear()
        self.assertEqual(parting_parts(belt(), other), before)


if __name__ == "__main__":
    unittest.main()
