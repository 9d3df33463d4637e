"""Joints: how they are made, what they tell, and what they do not take."""

import unittest

from tests.helpers import are_same, right_name, right_word, turn, values_of_every_kind
from tests.joining import belt, right_joint, some_joints, tables_of_joint
from whatparts.errors import InvalidJoint, InvalidOperation, UnknownName
from whatparts.glue import joints
from whatparts.glue.joints import MAX_MODES, MAX_SLOTS, Joint

METHODS = ("__call__", "after", "seen", "renamed_slots", "__contains__", "__len__", "__eq__", "__str__")
PROPERTIES = ("slots", "rules", "rests", "actions")
SLOTS = {"left": ("get", "put"), "right": ("take",)}
RULES = ({"put": ({"left": "put"}, 0), "take": ({"left": "get", "right": "take"}, 0)},)
RESTS = (("left",),)


def in_turn():
    """A joint with two modes, of which one is reached by no word, and with a slot without actions."""
    return Joint({"a": ("x",), "b": (), "c": ("x", "y", "z")},
                 ({"do": ({"a": "x", "c": "z"}, 2), "skip": ({}, 0)}, {"never": ({"c": "y"}, 1)},
                  {"do": ({"c": "x"}, 0)}), (None, (), ("a", "b", "c")))


class Interface(unittest.TestCase):
    def test_constants(self):
        self.assertEqual([MAX_SLOTS, MAX_MODES], [3, 4])

    def test_all_stands_where_it_is_listed(self):
        self.assertIs(vars(joints)["Joint"], Joint)
        self.assertEqual(Joint.__module__, "whatparts.glue.joints")
        for name in (*METHODS, *PROPERTIES):
            self.assertIn(name, vars(Joint))


class Made(unittest.TestCase):
    def test_properties(self):
        joint = belt()
        self.assertEqual(tables_of_joint(joint), (SLOTS, RULES, RESTS))
        self.assertEqual(joint.actions, ("put", "take"))
        self.assertEqual([len(joint), str(joint)], [1, "joint of 2 slots, 1 modes, 2 rules"])

    def test_unreached_modes_count(self):
        joint = in_turn()
        self.assertEqual(joint.actions, ("do", "never", "skip"))
        self.assertEqual([len(joint), str(joint)], [3, "joint of 3 slots, 3 modes, 4 rules"])
        self.assertEqual(joint.rests, (None, (), ("a", "b", "c")))

    def test_kinds_and_order_of_what_is_told(self):
        for slots, rules, rests in some_joints(80):
            turned = tuple({action: (dict(reversed(needs.items())), mode)
                            for action, (needs, mode) in reversed(row.items())} for row in rules)
            joint = Joint(dict(reversed(slots.items())), turned, rests)
            self.assertEqual(tables_of_joint(joint), (slots, rules, rests))
            self.assertTrue(right_joint(joint))
            self.assertEqual(joint.actions, tuple(sorted({action for row in rules for action in row})))
            self.assertEqual(str(joint), f"joint of {len(slots)} slots, {len(rules)} modes, "
                                         f"{sum(map(len, rules))} rules")
            self.assertEqual(len(joint), len(rules))

    def test_contains(self):
        self.assertIs("left" in belt(), True)
        self.assertIs("put" in belt(), False)
        self.assertIs("b" in in_turn(), True)
        for value in values_of_every_kind():
            self.assertIs(value in belt(), False, value)
            self.assertIs(value in Joint({"a": (), "put": ()}, ({},), (None,)), are_same(value, "a") or value == "put")
        self.assertIs(["left"] in belt(), False)
        self.assertIs({} in belt(), False)

    def test_cannot_be_iterated(self):
        with self.assertRaises(TypeError):
            iter(belt())


class Slots(unittest.TestCase):
    def test_at_the_bounds(self):
        for slots in ({"a": ()}, {"a": (), "b": (), "c": ()}, {"abcdefgh": ("a", "b", "c")},
                      {"c": ("a",), "a": ("a", "b", "c"), "b": ("x", "y", "z")}):
            joint = Joint(slots, ({},), (None,))
            self.assertEqual(joint.slots, slots)
            self.assertEqual(list(joint.slots), sorted(slots))
            self.assertEqual([joint.actions, len(joint)], [(), 1])

    def test_wrong(self):
        for slots in ({}, {"a": (), "b": (), "c": (), "d": ()}, {"a": ("a", "b", "c", "d")}, {"a": ("b", "a")},
                      {"a": ("a", "a")}, {"a": ["a"]}, {"a": "a"}, {"a": None}, {"a": ("A",)}, {"a": ("",)},
                      {"a": ("abcdefghi",)}, {"a": (0,)}, {"a": (None,)}, {"a": (("a",),)}, {"a": {}}, {"a": 0},
                      {"a": {"a": 0}}, {"": ()}, {"A": ()}, {"a1": ()}, {"abcdefghi": ()}, {0: ()}, {None: ()},
                      {True: ()}, {("a",): ()}, {"a": (), 0: ()}, {"b": (), "a": None}, (("a", ()),), ("a",), ["a"],
                      [("a", ())], None, 0, True, "", "a", belt()):
            with self.assertRaises(InvalidJoint, msg=slots):
                Joint(slots, ({},), (None,))

    def test_of_every_kind(self):
        for value in values_of_every_kind():
            with self.assertRaises(InvalidJoint, msg=value):
                Joint(value, ({},), (None,))
            if not (right_word(value) and list(value) == sorted(set(value)) and len(value) <= 3):
                with self.assertRaises(InvalidJoint, msg=value):
                    Joint({"b": (), "a": value}, ({},), (None,))


class Rules(unittest.TestCase):
    def test_at_the_bounds(self):
        free = {"w": ({}, 0), "x": ({}, 3), "y": ({}, 2), "z": ({}, 1)}
        for rules in (({},), ({}, {}, {}, {}), (free, {}, {}, {}), (free, free, free, free),
                      ({"w": ({}, 0)}, {"x": ({}, 0)}, {"y": ({}, 0)}, {"z": ({}, 0)}),
                      ({"abcdefgh": ({"left": "get", "right": "take"}, 0)},), ({"get": ({"left": "put"}, 0)},)):
            joint = Joint(SLOTS, rules, (None,) * len(rules))
            self.assertEqual([joint.rules, len(joint)], [rules, len(rules)])

    def test_wrong(self):
        free = {"w": ({}, 0)}
        for rules in ((), ({}, {}, {}, {}, {}), ({"v": ({}, 0), "w": ({}, 0), "x": ({}, 0), "y": ({}, 0), "z": ({}, 0)},),
                      ({"v": ({}, 0), "w": ({}, 0)}, {"x": ({}, 0), "y": ({}, 0), "z": ({}, 0)}), ({"": ({}, 0)},),
                      ({"A": ({}, 0)},), ({"abcdefghi": ({}, 0)},), ({0: ({}, 0)},), ({None: ({}, 0)},),
                      ({("a",): ({}, 0)},), ({"a": ({}, 1)},), ({"a": ({}, -1)},), ({"a": ({}, True)}, {}),
                      ({"a": ({}, False)},), ({"a": ({}, None)},), ({"a": ({}, "0")},), ({"a": ({}, (0,))},),
                      ({"a": ({}, 10 ** 39)},), ({"a": ({},)},), ({"a": ({}, 0, 0)},), ({"a": [{}, 0]},), ({"a": {}},),
                      ({"a": 0},), ({"a": None},), ({"a": ((), 0)},), ({"a": ([], 0)},), ({"a": (None, 0)},),
                      ({"a": ((("left", "put"),), 0)},), ({"a": ({"left": "take"}, 0)},), ({"a": ({"right": "get"}, 0)},),
                      ({"a": ({"middle": "get"}, 0)},), ({"a": ({"left": None}, 0)},), ({"a": ({"left": ("get",)}, 0)},),
                      ({"a": ({"left": ["get"]}, 0)},), ({"a": ({None: "get"}, 0)},), ({"a": ({0: "get"}, 0)},),
                      ({"a": ({("left",): "get"}, 0)},), ({"a": ({"left": 0}, 0)},), (free, None), (free, ()), (None,),
                      ([],), ((),), ("a",), (0,), [{}], {}, free, {0: {}}, None, 0, True, "", "a", belt()):
            with self.assertRaises(InvalidJoint, msg=rules):
                Joint(SLOTS, rules, (None,) * (len(rules) if isinstance(rules, (tuple, list, dict, str)) else 1))

    def test_of_every_kind(self):
        for value in values_of_every_kind():
            if not are_same(value, ({},)):
                with self.assertRaises(InvalidJoint, msg=value):
                    Joint(SLOTS, value, (None,))
            if not are_same(value, {}):
                with self.assertRaises(InvalidJoint, msg=value):
                    Joint(SLOTS, (value,), (None,))
                with self.assertRaises(InvalidJoint, msg=value):
                    Joint(SLOTS, ({"a": (value, 0)},), (None,))
            with self.assertRaises(InvalidJoint, msg=value):
                Joint(SLOTS, ({"a": value},), (None,))
            if value not in ("put", "get"):
                with self.assertRaises(InvalidJoint, msg=value):
                    Joint(SLOTS, ({"a": ({"left": value}, 0)},), (None,))
            if not are_same(value, 0):
                with self.assertRaises(InvalidJoint, msg=value):
                    Joint(SLOTS, ({"a": ({}, value)},), (None,))

    def test_a_slot_without_actions_never_steps(self):
        self.assertEqual(Joint({"a": ()}, ({"go": ({}, 0)},), (("a",),)).rules, ({"go": ({}, 0)},))
        with self.assertRaises(InvalidJoint):
            Joint({"a": ()}, ({"go": ({"a": "go"}, 0)},), (("a",),))


class Rests(unittest.TestCase):
    def test_right(self):
        for row in (None, (), ("left",), ("right",), ("left", "right")):
            self.assertEqual(Joint(SLOTS, RULES, (row,)).rests, (row,))
            self.assertEqual(Joint(SLOTS, (*RULES, {}), (row, None)).rests, (row, None))

    def test_wrong(self):
        for row in (("right", "left"), ("left", "left"), ("middle",), ("left", "middle"), ("get",), ["left"], [], {},
                    {"left": 0}, "left", "", 0, False, True, (None,), (("left",),), (0,), belt()):
            with self.assertRaises(InvalidJoint, msg=row):
                Joint(SLOTS, RULES, (row,))
            with self.assertRaises(InvalidJoint, msg=row):
                Joint(SLOTS, (*RULES, {}), (None, row))
        for rests in ((), (None, None), ((), ()), [None], [()], {0: None}, None, 0, True, "", "a"):
            with self.assertRaises(InvalidJoint, msg=rests):
                Joint(SLOTS, RULES, rests)

    def test_of_every_kind(self):
        for value in values_of_every_kind():
            if not are_same(value, (None,)) and not are_same(value, ((),)):
                with self.assertRaises(InvalidJoint, msg=value):
                    Joint(SLOTS, RULES, value)
            if value is not None and not are_same(value, ()):
                with self.assertRaises(InvalidJoint, msg=value):
                    Joint(SLOTS, RULES, (value,))


class Kept(unittest.TestCase):
    def test_what_is_passed_can_change(self):
        needs = {"left": "put"}
        row = {"put": (needs, 0), "take": ({"left": "get", "right": "take"}, 0)}
        slots = {"left": ("get", "put"), "right": ("take",)}
        joint = Joint(slots, (row,), RESTS)
        needs["right"] = "take"
        row.clear()
        slots["left"] = ()
        del slots["right"]
        self.assertEqual(joint, belt())
        self.assertEqual(tables_of_joint(joint), (SLOTS, RULES, RESTS))

    def test_what_is_returned_can_change(self):
        joint = belt()
        joint.slots.clear()
        joint.slots["left"] = ()
        joint.rules[0]["put"][0].clear()
        joint.rules[0].clear()
        other = joint.renamed_slots({"left": "left", "right": "right"})
        other.slots.clear()
        other.rules[0].clear()
        self.assertEqual(tables_of_joint(joint), (SLOTS, RULES, RESTS))
        self.assertEqual([joint, other], [belt(), belt()])


class Followed(unittest.TestCase):
    def test_examples(self):
        self.assertEqual(belt().after(("put", "take", "take")), 0)
        self.assertEqual(belt().seen("left", ("put", "take", "take")), ("put", "get", "get"))
        self.assertEqual(belt().seen("right", ("put",)), ())

    def test_modes(self):
        joint = in_turn()
        for word, mode, words in (((), 0, ((), (), ())), (("do",), 2, (("x",), (), ("z",))),
                                  (("do", "do"), 0, (("x",), (), ("z", "x"))), (("skip",), 0, ((), (), ())),
                                  (("skip", "do", "do", "do"), 2, (("x", "x"), (), ("z", "x", "z"))),
                                  (("do", "skip"), None, (None,) * 3), (("never",), None, (None,) * 3),
                                  (("do", "skip", "do"), None, (None,) * 3), (("x",), None, (None,) * 3)):
            self.assertEqual(joint.after(word), mode)
            self.assertEqual(tuple(joint.seen(slot, word) for slot in "abc"), words)

    def test_wrong(self):
        for value in values_of_every_kind():
            if not right_word(value):
                with self.assertRaises(InvalidOperation, msg=value):
                    belt().after(value)
                with self.assertRaises(InvalidOperation, msg=value):
                    belt().seen("left", value)
            for word in ((), ("put",), None, value):
                with self.assertRaises(UnknownName, msg=value) as caught:
                    belt().seen(value, word)
                self.assertIs(caught.exception.name, value)
        for slot in ("middle", "put", "", "lef", "leftt"):
            with self.assertRaises(UnknownName) as caught:
                belt().seen(slot, ["put"])
            self.assertEqual(caught.exception.name, slot)


class Renamed(unittest.TestCase):
    def test_example(self):
        joint = belt().renamed_slots({"left": "right", "right": "left"})
        self.assertEqual(joint, Joint({"right": ("get", "put"), "left": ("take",)},
                                      ({"put": ({"right": "put"}, 0), "take": ({"right": "get", "left": "take"}, 0)},),
                                      (("right",),)))

    def test_all_stays_but_the_names(self):
        for tables in some_joints(80, seed=2):
            joint = Joint(*tables)
            for new in (("x", "b", "left"), ("right", "in", "left"), ("in", "left", "right")):
                names = dict(zip(joint.slots, new))
                made = joint.renamed_slots(names)
                self.assertTrue(right_joint(made))
                self.assertEqual(made.slots, {names[slot]: actions for slot, actions in tables[0].items()})
                self.assertEqual(made.rules, tuple({action: ({names[slot]: name for slot, name in needs.items()}, mode)
                                                    for action, (needs, mode) in row.items()} for row in tables[1]))
                self.assertEqual([None if row is None else set(row) for row in made.rests],
                                 [None if row is None else {names[slot] for slot in row} for row in tables[2]])
                self.assertEqual(made.renamed_slots({other: slot for slot, other in names.items()}), joint)

    def test_order_of_the_dict_has_no_meaning(self):
        self.assertEqual(belt().renamed_slots({"left": "a", "right": "b"}),
                         belt().renamed_slots({"right": "b", "left": "a"}))

    def test_wrong(self):
        for names in ({}, {"left": "a"}, {"right": "a"}, {"left": "a", "right": "a"}, {"left": "right", "right": "right"},
                      {"left": "a", "right": "b", "x": "c"}, {"left": "a", "x": "b"}, {"left": "a", "right": "B"},
                      {"left": "a", "right": ""}, {"left": "a", "right": "abcdefghi"}, {"left": "a", "right": None},
                      {"left": ["a"], "right": "b"}, {"left": {}, "right": "b"}, {"left": "a", None: "b"},
                      {"left": "a", "right": 0}, (("left", "a"), ("right", "b")), ("left", "right")):
            with self.assertRaises(InvalidOperation, msg=names):
                belt().renamed_slots(names)
        for value in values_of_every_kind():
            with self.assertRaises(InvalidOperation, msg=value):
                belt().renamed_slots(value)
            if not right_name(value):
                with self.assertRaises(InvalidOperation, msg=value):
                    belt().renamed_slots({"left": value, "right": "b"})


class Compared(unittest.TestCase):
    def test_equal(self):
        for tables in some_joints(30, seed=3):
            self.assertTrue(Joint(*tables) == Joint(*tables))
            self.assertFalse(Joint(*tables) != Joint(*tables))

    def test_unequal(self):
        for other in (Joint(SLOTS, RULES, (None,)), Joint(SLOTS, RULES, ((),)), Joint(SLOTS, ({},), RESTS),
                      Joint({**SLOTS, "more": ()}, RULES, RESTS), Joint({**SLOTS, "right": ("a", "take")}, RULES, RESTS),
                      Joint(SLOTS, (*RULES, {}), (*RESTS, None)), in_turn()):
            self.assertIs(belt() == other, False)
            self.assertIs(belt() != other, True)

    def test_every_kind(self):
        for value in values_of_every_kind():
            self.assertIs(belt() == value, False)
            self.assertIs(belt() != value, True)
        self.assertFalse(belt() == turn())


if __name__ == "__main__":
    unittest.main()
