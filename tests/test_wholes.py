"""What a whole does, and which parts its joint takes."""

import random
import unittest

from tests.helpers import are_alike_tables, lead, offer_in, plain_words, ring, turn, values_of_every_kind
from tests.joining import belt, plain_whole, small_parts, some_fillings, some_joints
from tests.wishing import table_of
from whatparts.core.alike import are_alike
from whatparts.core.parts import Part
from whatparts.errors import InvalidOperation, InvalidPart
from whatparts.glue.joints import Joint


def taker():
    return Part(({"take": 0},))


def parts_of(tables):
    return {slot: Part(*table) for slot, table in tables.items()}


def some_wholes(many, seed=1, states=3, **more):
    source = random.Random(seed)
    return [(joint, some_fillings(source, joint[0], states)) for joint in some_joints(many, seed, **more)]


class Wholes(unittest.TestCase):
    def test_example(self):
        whole = belt()({"left": turn(), "right": taker()})
        self.assertEqual(table_of(whole), (({"put": 1}, {"take": 0}), (0,)))
        self.assertIsInstance(whole, Part)

    def test_against_a_plain_reckoning(self):
        sizes = set()
        for joint, tables in some_wholes(400, seed=31):
            whole = Joint(*joint)(parts_of(tables))
            self.assertEqual(table_of(whole), plain_whole(joint, tables), (joint, tables))
            self.assertTrue(all(list(row) == sorted(row) for row in whole.steps))
            sizes.add(len(whole))
        self.assertLessEqual({1, 2, 3, 4, 6, 10}, sizes)

    def test_words_by_rules_and_parts(self):
        longer = 0
        for joint, tables in some_wholes(60, seed=32, outer="wxy"):
            made, parts = Joint(*joint), parts_of(tables)
            whole = made(parts)
            for word in plain_words("wxy", 4):
                seen = {slot: made.seen(slot, word) for slot in joint[0]}
                right = made.after(word) is not None and all(seen[slot] in parts[slot] for slot in seen)
                self.assertIs(word in whole, right, (joint, tables, word))
                if right:
                    longer += len(word) > 2
                    must = joint[2][made.after(word)]
                    rests = must is not None and all(parts[slot][seen[slot]][1] for slot in must)
                    self.assertIs(whole[word][1], rests)
        self.assertGreater(longer, 200)

    def test_a_step_needs_all_that_step(self):
        joint = Joint({"a": ("go",), "b": ("go",)}, ({"both": ({"a": "go", "b": "go"}, 0), "one": ({"a": "go"}, 0),
                                                     "none": ({}, 0)},), ((),))
        go, stay = Part(({"go": 0},)), Part(({},))
        self.assertEqual(joint({"a": go, "b": go}).offer(0), (("both", "none", "one"), True))
        self.assertEqual(joint({"a": go, "b": stay}).offer(0), (("none", "one"), True))
        self.assertEqual(joint({"a": stay, "b": go}).offer(0), (("none",), True))

    def test_equal_parts_do_not_share_their_state(self):
        joint = Joint({"a": ("get", "put"), "b": ("get", "put")},
                      ({"one": ({"a": "put"}, 0), "other": ({"b": "put"}, 0)},), (("b",),))
        part = turn()
        whole = joint({"a": part, "b": part})
        self.assertEqual(len(whole), 4)
        self.assertEqual(whole[("one",)], (("other",), True))
        self.assertEqual(whole[("other",)], (("one",), False))
        self.assertEqual(whole[("one", "other")], ((), False))

    def test_rests(self):
        for must, expected in ((None, ()), ((), (0, 1)), (("left",), (0,)), (("right",), (0, 1)),
                               (("left", "right"), (0,))):
            joint = Joint(belt().slots, belt().rules, (must,))
            whole = joint({"left": turn(), "right": Part(({"take": 0},), (0,))})
            self.assertEqual(whole.rests, expected)

    def test_rests_by_mode(self):
        joint = Joint({"a": ()}, ({"x": ({}, 1)}, {"x": ({}, 2)}, {"x": ({}, 3)}, {}), ((), None, ("a",), ()))
        self.assertEqual(joint({"a": Part(({},))}).rests, (0, 3))
        self.assertEqual(joint({"a": Part(({},), (0,))}).rests, (0, 2, 3))

    def test_slots_without_actions(self):
        joint = Joint({"a": (), "b": (), "c": ()}, ({"x": ({}, 0)},), (("a", "b", "c"),))
        rests, never = Part(({},), (0,)), Part(({},))
        self.assertEqual(table_of(joint({"a": rests, "b": rests, "c": rests})), (({"x": 0},), (0,)))
        self.assertEqual(table_of(joint({"a": rests, "b": never, "c": rests})), (({"x": 0},), ()))

    def test_states_in_the_order_of_first_words(self):
        joint = Joint({"a": ("go",)}, ({"z": ({"a": "go"}, 1), "y": ({}, 2)}, {"x": ({}, 3)}, {"x": ({}, 1)}, {}),
                      (None, (), ("a",), None))
        whole = joint({"a": Part(({"go": 1}, {}), (1,))})
        self.assertEqual(whole.steps, ({"y": 1, "z": 2}, {"x": 3}, {"x": 4}, {"x": 5}, {}, {}))
        self.assertEqual(whole.rests, (2, 3))

    def test_states_are_not_put_together(self):
        joint = Joint({"a": ("go",)}, ({"x": ({"a": "go"}, 0)},), (None,))
        self.assertEqual(len(joint({"a": Part(({"go": 1}, {"go": 0}))})), 2)
        self.assertEqual(len(joint({"a": Part(({"go": 0}, {"go": 0}))})), 1)

    def test_the_largest_parts(self):
        rules = {"w": ({"a": "a"}, 1), "x": ({"b": "a"}, 2), "y": ({"c": "a"}, 3), "z": ({}, 0)}
        joint = Joint({"a": ("a",), "b": ("a",), "c": ("a",)}, (rules,) * 4, (("a", "b", "c"), None, (), ("a",)))
        whole = joint({"a": ring(8), "b": ring(8), "c": ring(8)})
        self.assertEqual(len(whole), 2048)
        self.assertEqual(whole[("w",) * 8 + ("x", "y") * 8 + ("z",)][1], True)
        self.assertEqual(whole[("w",) * 7 + ("z",)][1], False)

    def test_parts_with_more_than_eight_states(self):
        joint = Joint({"a": ("a",)}, ({"w": ({"a": "a"}, 0)},), (("a",),))
        part = ring(7) & ring(8)
        whole = joint({"a": part})
        self.assertEqual(whole, part.renamed({"a": "w"}))
        again = joint({"a": whole.renamed({"w": "a"})})
        self.assertEqual(again, whole)

    def test_alike_parts_make_alike_wholes(self):
        for joint, tables in some_wholes(150, seed=33):
            made, parts = Joint(*joint), parts_of(tables)
            others = {slot: part.least() for slot, part in parts.items()}
            self.assertTrue(are_alike_tables(table_of(made(parts)), table_of(made(others))))
            self.assertTrue(are_alike(made(parts), made(others)))

    def test_all_small_parts(self):
        joint = Joint({"a": ("p", "q"), "b": ("p",)}, ({"x": ({"a": "p"}, 1), "y": ({"a": "q", "b": "p"}, 0)},
                                                       {"x": ({"b": "p"}, 0), "z": ({}, 1)}), (("a",), ("a", "b")))
        tables = joint.slots, joint.rules, joint.rests
        for one in small_parts(("p", "q")):
            for other in small_parts(("p",)):
                whole = joint({"a": Part(*one), "b": Part(*other)})
                self.assertEqual(table_of(whole), plain_whole(tables, {"a": one, "b": other}))
                for state in range(len(whole)):
                    self.assertEqual(whole.offer(state), offer_in(*table_of(whole), state))
                self.assertEqual(whole.after(("x", "z")), lead(whole.steps, ("x", "z")))

    def test_order_of_the_dict_has_no_meaning(self):
        self.assertEqual(belt()({"right": taker(), "left": turn()}), belt()({"left": turn(), "right": taker()}))

    def test_nothing_is_changed(self):
        joint, left = belt(), turn()
        parts = {"left": left, "right": taker()}
        whole = joint(parts)
        self.assertEqual([joint, left, parts], [belt(), turn(), {"left": turn(), "right": taker()}])
        parts.clear()
        whole.steps[0].clear()
        self.assertEqual(whole, belt()({"left": turn(), "right": taker()}))


class Wrong(unittest.TestCase):
    def test_keys(self):
        for parts in ({}, {"left": turn()}, {"right": taker()}, {"left": turn(), "right": taker(), "more": taker()},
                      {"left": turn(), "more": taker()}, {"left": turn(), None: taker()}, {"left": turn(), 0: taker()},
                      {"left": turn(), ("right",): taker()}, {"Left": turn(), "right": taker()},
                      (("left", turn()), ("right", taker())), [("left", turn()), ("right", taker())],
                      (turn(), taker()), ("left", "right"), None, turn(), belt()):
            with self.assertRaises(InvalidOperation, msg=parts):
                belt()(parts)
        for value in values_of_every_kind():
            with self.assertRaises(InvalidOperation, msg=value):
                belt()(value)

    def test_keys_come_before_values(self):
        for parts in ({"left": None}, {"left": None, "middle": None}, {"left": None, "right": None, "more": None}):
            with self.assertRaises(InvalidOperation):
                belt()(parts)

    def test_values(self):
        for value in values_of_every_kind():
            if not isinstance(value, Part):
                with self.assertRaises(InvalidPart, msg=value):
                    belt()({"left": value, "right": taker()})
                with self.assertRaises(InvalidPart, msg=value):
                    belt()({"left": turn(), "right": value})
                with self.assertRaises(InvalidPart, msg=value):
                    belt()({"left": value, "right": value})

    def test_actions(self):
        for part in (taker(), Part(({"put": 0, "take": 0},)), Part(({"put": 0}, {"take": 0})), Part(({"x": 0},))):
            with self.assertRaises(InvalidPart):
                belt()({"left": part, "right": taker()})
        for part in (turn(), Part(({"take": 0}, {"get": 0})), Part(({"take": 0, "x": 0},))):
            with self.assertRaises(InvalidPart):
                belt()({"left": turn(), "right": part})
        self.assertEqual(len(belt()({"left": Part(({},)), "right": Part(({},))})), 1)
        with self.assertRaises(InvalidPart):
            Joint({"a": ()}, ({},), (None,))({"a": taker()})


if __name__ == "__main__":
    unittest.main()
