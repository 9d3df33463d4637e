"""The wish on a missing part where other parts are known by wishes, and parts that break a wish."""

import itertools
import random
import unittest

from tests.helpers import ring, turn, values_of_every_kind
from tests.joining import belt, joint_of, plain_whole, small_parts, some_fillings
from tests.missing import generous, some_system
from tests.solving import can_be_kept
from tests.test_exact import going, in_step, is_dict_of, must, rod
from tests.wishing import does_keep, few, part_of, right_wish, some_wish, table_of, tables_of, turns, wish_of
from whatparts.core.parts import Part
from whatparts.errors import InvalidJoint, InvalidOperation, InvalidWish, TooMany, UnknownName
from whatparts.glue.inner import filled
from whatparts.glue.joints import Joint
from whatparts.miss import contracts
from whatparts.miss.compared import are_same, is_within, least_wish
from whatparts.miss.contracts import breaking_parts, is_breaking, whatever_wish
from whatparts.miss.exact import missing_wish
from whatparts.miss.solved import find_part
from whatparts.want.keeping import keeps
from whatparts.want.wishes import Wish, free_wish

NAMES = ("whatever_wish", "breaking_parts", "is_breaking")
EMPTY = Wish((), ())
TAKE = Part(({"take": 0},))


def sure():
    """The wish SURE of the document."""
    return Wish((((("put",), True),), ((("get",), False),)), ({"put": 1}, {"get": 0}))


def lazy():
    """The wish LAZY of the document."""
    return Wish(((((), True), (("put",), True)), ((("get",), False),)), ({"put": 1}, {"get": 0}))


def never():
    return Wish(((),), ({},))


def some_known(source, actions):
    """Tables of a wish without goals, with actions of a slot."""
    if not actions:
        return ((((), False), ((), True))[:source.randint(1, 2)],), ({},), ((),)
    offers, steps, _ = some_wish(source, actions, source.choice((1, 2, 2)), 0)
    return offers, steps, ((),) * len(offers)


def some_contracts(many, seed, most_known=3):
    """Tables (joint, slot, wish, others), where what is known has three tables for a wish and two for a part."""
    source = random.Random(seed)
    found = []
    for _ in range(many):
        joint, slot, wish, others = some_system(source, most_goals=0)
        wish = generous(source, wish)
        known = {}
        for name, table in others.items():
            known[name] = some_known(source, joint[0][name]) if source.random() < 0.7 else table
        found.append((joint, slot, wish, known))
    return found


def objects(tables):
    joint, slot, wish, known = tables
    return joint_of(joint), slot, wish_of(wish), {name: object_of(value) for name, value in known.items()}


def object_of(table):
    return wish_of(table) if len(table) == 3 else part_of(table)


def meeting(source, actions, table, many):
    """Tables of some parts with actions of a slot that meet what is known of it, plainly."""
    if len(table) == 2:
        return [table]
    drawn = small_parts(actions) + [some_fillings(source, {"a": actions}, 2)["a"] for _ in range(many)]
    found = [part for part in drawn if does_keep(part, table)]
    return source.sample(found, min(4, len(found)))


def is_kept_with_all(source, joint, wish, known, many=30):
    """Whether the wholes of some parts that meet what is known keep a wish."""
    rows = [[(slot, part) for part in meeting(source, joint[0][slot], known[slot], many)] for slot in known]
    return all(does_keep(plain_whole(joint, dict(row)), wish) for row in itertools.product(*rows))


def are_breaking(joint, wish, known, parts):
    """Whether parts meet what is known, and break the wish, clause by clause."""
    return list(parts) == sorted(joint[0]) and all(
        isinstance(part, Part) and set(part.actions) <= set(joint[0][slot]) and
        (does_keep(table_of(part), known[slot]) if len(known[slot]) == 3 else table_of(part) == known[slot])
        for slot, part in parts.items()) and not does_keep(
            plain_whole(joint, {slot: table_of(part) for slot, part in parts.items()}), wish)


class Interface(unittest.TestCase):
    def test_all_stands_where_it_is_listed(self):
        for name in NAMES:
            self.assertEqual(vars(contracts)[name].__module__, "whatparts.miss.contracts")


class Whatever(unittest.TestCase):
    def test_examples(self):
        self.assertTrue(are_same(whatever_wish(belt(), "right", turns(), {"left": sure()}), must()))
        self.assertIsNone(find_part(whatever_wish(belt(), "right", turns(), {"left": lazy()})))

    def check(self, tables, source):
        """Whether some of the parts keep the wish, and whether all do."""
        joint, slot, wish, known = tables
        made = whatever_wish(*objects(tables))
        self.assertFalse(made.has_goals)
        self.assertTrue(right_wish(made))
        self.assertLessEqual(set(made.actions), set(joint[0][slot]))
        kept = []
        for table in small_parts(joint[0][slot]) + [some_fillings(source, {"a": joint[0][slot]})["a"] for _ in range(4)]:
            keeps_it = keeps(part_of(table), made)
            kept.append(keeps_it)
            every = {**known, slot: table}
            parts = breaking_parts(joint_of(joint), wish_of(wish), {name: object_of(every[name]) for name in every})
            self.assertEqual(parts is None, keeps_it, (tables, table))
            if parts is None:
                self.assertTrue(is_kept_with_all(source, joint, wish, every), (tables, table))
            else:
                self.assertTrue(are_breaking(joint, wish, every, parts), (tables, table))
        return any(kept), all(kept)

    def test_kept_exactly_without_breaking_parts(self):
        source = random.Random(1)
        found = {}
        for tables in some_contracts(180, 1):
            if any(len(value) == 3 for value in tables[3].values()):
                kind = self.check(tables, source)
                found[kind] = found.get(kind, 0) + 1
        self.assertGreater(min(found.values()), 12)
        self.assertEqual(len(found), 3)

    def test_known_parts_alone(self):
        for tables in some_contracts(120, 2):
            joint, slot, wish, known = objects(tables)
            parts = {name: value for name, value in known.items() if isinstance(value, Part)}
            if parts == known:
                self.assertTrue(are_same(whatever_wish(joint, slot, wish, known), missing_wish(joint, slot, wish, known)))

    def test_a_wish_that_no_part_keeps(self):
        for known in (EMPTY, never(), Wish((sure().offers[0], ()), ({"put": 1}, {}))):
            made = whatever_wish(belt(), "right", turns(), {"left": known})
            self.assertTrue(are_same(made, free_wish(("take",))))
            made = whatever_wish(belt(), "right", EMPTY, {"left": known})
            self.assertTrue(are_same(made, free_wish(("take",))))
            for right in (TAKE, Part(({},)), free_wish(("take",))):
                self.assertIsNone(breaking_parts(belt(), turns(), {"left": known, "right": right}))

    def test_no_standings_where_no_part_meets_a_wish(self):
        # The slots x and z alone go on through more than forty tuples; but there are none, as nothing meets what y is.
        joint = Joint({slot: ("a",) for slot in "xyz"}, ({"a": ({"x": "a", "z": "a"}, 0)},), (None,))
        with self.assertRaises(TooMany):
            whatever_wish(joint, "x", going(8), {"y": going(1), "z": ring(7)})
        for known in (EMPTY, never(), Wish(((), (((), False),)), ({}, {}))):
            made = whatever_wish(joint, "x", going(8), {"y": known, "z": ring(7)})
            self.assertTrue(are_same(made, free_wish(("a",))))

    def test_only_good_offers_count(self):
        # The known wish allows to put twice, but then nothing can be done that keeps it.
        known = Wish((((("put",), True),), ((("get",), False), (("put",), False)), ()),
                     ({"put": 1}, {"get": 0, "put": 2}, {}))
        self.assertTrue(are_same(known, sure()))
        self.assertTrue(are_same(whatever_wish(belt(), "right", turns(), {"left": known}), must()))
        self.assertIsNone(breaking_parts(belt(), turns(), {"left": known, "right": TAKE}))

    def test_a_wish_without_states_on_the_whole(self):
        made = whatever_wish(belt(), "right", EMPTY, {"left": lazy()})
        self.assertFalse(can_be_kept(tables_of(made)))
        parts = breaking_parts(belt(), EMPTY, {"left": lazy(), "right": free_wish(("take",))})
        self.assertTrue(are_breaking(*[(belt().slots, belt().rules, belt().rests), ((), (), ()),
                                       {"left": tables_of(lazy()), "right": tables_of(free_wish(("take",)))}], parts))

    def test_a_wish_that_lies_within_another_one(self):
        source = random.Random(3)
        unlike = 0
        for tables in some_contracts(150, 3):
            joint, slot, wish, known = objects(tables)
            for name, value in known.items():
                if isinstance(value, Wish):
                    other = wish_of(some_known(source, tables[0][0][name]))
                    wide, narrow = value, value & other
                    self.assertTrue(is_within(narrow, wide))
                    first = whatever_wish(joint, slot, wish, {**known, name: wide})
                    second = whatever_wish(joint, slot, wish, {**known, name: narrow})
                    self.assertTrue(is_within(first, second))
                    unlike += not is_within(second, first)
        self.assertGreater(unlike, 10)

    def test_known_wishes_that_the_same_parts_keep(self):
        for tables in some_contracts(60, 4):
            joint, slot, wish, known = objects(tables)
            other = {name: least_wish(value) if isinstance(value, Wish) else value for name, value in known.items()}
            self.assertTrue(are_same(whatever_wish(joint, slot, wish, known), whatever_wish(joint, slot, wish, other)))

    def test_the_only_slot(self):
        joint = filled(belt(), "left", turn())
        self.assertTrue(are_same(whatever_wish(joint, "right", turns(), {}), must()))
        self.assertIsNone(breaking_parts(joint, turns(), {"right": TAKE}))
        self.assertIsNone(breaking_parts(joint, turns(), {"right": must()}))
        alone = filled(joint, "right", TAKE)
        self.assertIsNone(breaking_parts(alone, turns(), {}))
        self.assertEqual(breaking_parts(alone, EMPTY, {}), {})
        self.assertIs(is_breaking(alone, EMPTY, {}, {}), True)
        self.assertIs(is_breaking(alone, turns(), {}, {}), False)

    def test_forty_and_forty_one(self):
        known = {"y": going(5), "z": rod(5, 1)}
        self.assertTrue(keeps(Part(({"a": 0},)), whatever_wish(in_step("xyz"), "x", going(7), known)))
        self.assertTrue(keeps(Part(({"a": 0},)), whatever_wish(in_step("xy"), "x", going(8), {"y": going(5)})))
        for system in ((in_step("xyz"), "x", going(7), {"y": going(5), "z": rod(6, 1)}),
                       (in_step("xy", ("a", "b")), "x", going(8), {"y": going(5)}),
                       (in_step("xy"), "x", going(8), {"y": going(7)})):
            with self.assertRaises(TooMany) as caught:
                whatever_wish(*system)
            self.assertEqual(caught.exception.limit, 40)
            joint, slot, wish, others = system
            self.assertIsNone(breaking_parts(joint, wish, {**others, slot: ring(1)}))
        with self.assertRaises(InvalidOperation):
            whatever_wish(in_step("xy"), "x", going(8).lively(), {"y": going(7)})
        self.assertTrue(are_same(whatever_wish(in_step("xy"), "x", going(8), {"y": EMPTY}), free_wish(("a",))))


class Breaking(unittest.TestCase):
    def test_examples(self):
        self.assertIsNone(breaking_parts(belt(), turns(), {"left": sure(), "right": TAKE}))
        parts = {"left": Part(({},), (0,)), "right": TAKE}
        self.assertIs(is_breaking(belt(), turns(), {"left": lazy(), "right": TAKE}, parts), True)
        found = breaking_parts(belt(), turns(), {"left": lazy(), "right": Part(({},))})
        self.assertIs(is_breaking(belt(), turns(), {"left": lazy(), "right": Part(({},))}, found), True)

    def test_long_ways_to_what_breaks(self):
        # Only behind seven steps the known wish lets the left part stop.
        wait = [(("a",), False)]
        known = Wish(tuple((wait[0],) for _ in range(7)) + ((((), False), wait[0]),),
                     tuple({"a": at + 1} for at in range(7)) + ({"a": 0},))
        found = breaking_parts(in_step("xy"), going(1), {"x": free_wish(("a",)), "y": known})
        self.assertTrue(is_breaking(in_step("xy"), going(1), {"x": free_wish(("a",)), "y": known}, found))
        found = breaking_parts(in_step("xy"), going(1), {"x": going(3), "y": known})
        self.assertEqual(found["y"][("a",) * 7], ((), False))
        self.assertTrue(keeps(found["x"], going(3)))
        self.assertIsNone(breaking_parts(in_step("xy"), going(1), {"x": going(3), "y": going(5)}))

    def test_both_choices_matter(self):
        # The whole rests only if both parts do; each wish lets its part rest or not.
        joint = Joint({"a": (), "b": ()}, ({},), (("a", "b"),))
        both = Wish(((((), False), ((), True)),), ({},))
        for offers, right in (((((), False),), ((), True)), ((((), True),), ((), False))):
            wish = Wish((offers,), ({},))
            found = breaking_parts(joint, wish, {"a": both, "b": both})
            self.assertTrue(is_breaking(joint, wish, {"a": both, "b": both}, found))
            self.assertEqual(joint(found).offer(0), right)
        self.assertIsNone(breaking_parts(joint, free_wish(()), {"a": both, "b": both}))
        resting = Wish(((((), True),),), ({},))
        self.assertIsNone(breaking_parts(joint, resting, {"a": resting, "b": resting}))

    def test_judged(self):
        source = random.Random(5)
        found = {True: 0, False: 0}
        for tables in some_contracts(100, 5):
            joint, slot, wish, known = tables
            known = {**known, slot: some_known(source, joint[0][slot])}
            objects_known = {name: object_of(known[name]) for name in known}
            for _ in range(6):
                parts = {}
                for name in sorted(joint[0]):
                    rows = meeting(source, joint[0][name], known[name], 10) if source.random() < 0.8 else None
                    parts[name] = part_of(source.choice(rows or small_parts(("a", "b"))))
                right = are_breaking(joint, wish, known, parts)
                found[right] += 1
                self.assertIs(is_breaking(joint_of(joint), wish_of(wish), objects_known, parts), right)
        self.assertGreater(min(found.values()), 60)

    def test_equal_parts_meet_and_alike_ones_do_not(self):
        known = {"left": turn(), "right": Part(({},))}
        self.assertIs(is_breaking(belt(), turns(), known, known), True)
        self.assertIs(is_breaking(belt(), turns(), known, {"left": turn(), "right": Part(({},))}), True)
        longer = Part(({"put": 1}, {"get": 2}, {"put": 1}), (0, 2))
        self.assertIs(is_breaking(belt(), turns(), known, {"left": longer, "right": Part(({},))}), False)
        self.assertIs(is_breaking(belt(), turns(), known, {"left": turn(), "right": Part(({}, {}))}), False)

    def test_parts_with_other_actions_meet_nothing(self):
        known = {"left": lazy(), "right": free_wish(("take",))}
        parts = {"left": Part(({},), (0,)), "right": Part(({"take": 0},))}
        self.assertIs(is_breaking(belt(), turns(), known, parts), True)
        for slot, part in (("left", Part(({}, {"take": 0}), (0,))), ("right", Part(({"take": 0}, {"put": 0}))),
                           ("left", Part(({},))), ("right", Part(({"take": 0, "put": 0},)))):
            self.assertIs(is_breaking(belt(), turns(), known, {**parts, slot: part}), False)

    def test_values_of_every_kind(self):
        known = {"left": lazy(), "right": free_wish(("take",))}
        rest, right = Part(({},), (0,)), TAKE
        for value in values_of_every_kind():
            self.assertIs(is_breaking(belt(), turns(), known, value), False, value)
            self.assertIs(is_breaking(belt(), turns(), known, {"left": value, "right": right}), False, value)
            self.assertIs(is_breaking(belt(), turns(), known, {"left": rest, "right": value}), False, value)
            for more in ({"left": rest}, {"left": rest, "right": right, "x": value}, (("left", rest), ("right", right)),
                         {"left": rest, None: right}, [rest, right]):
                self.assertIs(is_breaking(belt(), turns(), known, more), False)
        self.assertIs(is_breaking(belt(), turns(), known, {"right": right, "left": rest}), True)


class Wrong(unittest.TestCase):
    def test_whatever_wish(self):
        others = {"left": sure()}
        for value in values_of_every_kind():
            if not isinstance(value, Joint):
                for more in (("right", turns(), others), (value, value, value)):
                    with self.assertRaises(InvalidJoint, msg=value):
                        whatever_wish(value, *more)
            for more in ((turns(), others), (None, None), (value, value)):
                with self.assertRaises(UnknownName, msg=value) as caught:
                    whatever_wish(belt(), value, *more)
                self.assertIs(caught.exception.name, value)
            if not isinstance(value, Wish):
                for more in (others, None, value):
                    with self.assertRaises(InvalidWish, msg=value):
                        whatever_wish(belt(), "right", value, more)
            with self.assertRaises(InvalidOperation, msg=value):
                whatever_wish(belt(), "right", turns(), value)
            if not self.can_know(value, {"put", "get"}):
                with self.assertRaises(InvalidOperation, msg=value):
                    whatever_wish(belt(), "right", turns(), {"left": value})
        with self.assertRaises(InvalidOperation):
            whatever_wish(belt(), "right", turns().lively(), others)
        for wrong in ({"left": sure().lively()}, {"left": few()}, {"left": TAKE}, {"left": sure(), "right": must()}, {},
                      {"right": sure()}, {"left": free_wish(("put", "take"))}, {"left": Part(({}, {"take": 0}))}):
            with self.assertRaises(InvalidOperation):
                whatever_wish(belt(), "right", turns(), wrong)

    def can_know(self, value, names):
        return isinstance(value, (Part, Wish)) and set(value.actions) <= names and \
            not (isinstance(value, Wish) and value.has_goals)

    def test_breaking(self):
        known = {"left": sure(), "right": TAKE}
        for function, more in ((breaking_parts, ()), (is_breaking, (known,)), (is_breaking, (None,))):
            for value in values_of_every_kind():
                if not isinstance(value, Joint):
                    for rest in ((turns(), known), (None, None), (value, value)):
                        with self.assertRaises(InvalidJoint, msg=value):
                            function(value, *rest, *more)
                if not isinstance(value, Wish):
                    for rest in (known, None, value):
                        with self.assertRaises(InvalidWish, msg=value):
                            function(belt(), value, rest, *more)
                with self.assertRaises(InvalidOperation, msg=value):
                    function(belt(), turns(), value, *more)
                if not self.can_know(value, {"take"}):
                    with self.assertRaises(InvalidOperation, msg=value):
                        function(belt(), turns(), {"left": sure(), "right": value}, *more)
            with self.assertRaises(InvalidOperation):
                function(belt(), turns().lively(), known, *more)
            for wrong in ({"left": sure()}, {**known, "x": TAKE}, {"left": sure().lively(), "right": TAKE}, {},
                          {"left": free_wish(("take",)), "right": TAKE}, {"left": TAKE, "right": TAKE}):
                with self.assertRaises(InvalidOperation):
                    function(belt(), turns(), wrong, *more)
        self.assertTrue(is_dict_of(breaking_parts(belt(), EMPTY, known), "left", "right"))

    def test_nothing_is_changed(self):
        known = {"left": lazy(), "right": TAKE}
        parts = breaking_parts(belt(), turns(), known)
        self.assertEqual(known, {"left": lazy(), "right": Part(({"take": 0},))})
        parts.clear()
        again = breaking_parts(belt(), turns(), known)
        self.assertEqual(list(again), ["left", "right"])
        made = whatever_wish(belt(), "right", turns(), {"left": lazy()})
        for row in made.steps:
            row.clear()
        self.assertEqual(made, whatever_wish(belt(), "right", turns(), {"left": lazy()}))


if __name__ == "__main__":
    unittest.main()
