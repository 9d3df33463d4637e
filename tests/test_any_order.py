"""Slots filled in any order, and joints nested: the wishes that follow are kept by the same parts."""

import random
import unittest

from tests.helpers import turn
from tests.joining import belt, doubled, joint_of, small_parts, some_fillings, some_joint
from tests.missing import does_fit, generous, objects, parts_of_slot, some_systems
from tests.wishing import does_keep, part_of, some_wish, table_of, tables_of, turns, wish_of
from whatparts.core.alike import are_alike
from whatparts.core.parts import Part
from whatparts.errors import TooMany
from whatparts.glue.inner import are_alike_joints, filled, least_joint, nested
from whatparts.miss.compared import are_same as keep_same
from whatparts.miss.compared import is_within, parting_part
from whatparts.miss.exact import fits, missing_wish
from whatparts.miss.solved import find_part, narrowed
from whatparts.want.keeping import keeps
from whatparts.want.wishes import free_wish


def some_nests(many, seed, most_goals=2):
    """A joint with a slot, a joint for this slot with a slot of it, parts for all others, and a wish."""
    source = random.Random(seed)
    found = []
    while len(found) < many:
        joint = some_joint(source, names=("left", "right"), inner="ab", outer="xy")
        other = some_joint(source, names=("d", "e"), inner="ab", outer="ab")
        slot, inside = source.choice(sorted(joint[0])), source.choice(sorted(other[0]))
        joint = ({**joint[0], slot: ("a", "b")}, *joint[1:])
        outer = some_fillings(source, {name: names for name, names in joint[0].items() if name != slot}, 2)
        inner = some_fillings(source, {name: names for name, names in other[0].items() if name != inside}, 2)
        wish = generous(source, some_wish(source, "xy", source.choice((1, 2)), most_goals))
        found.append((joint, slot, other, inside, wish, inner, outer))
    return found


def unrolled(source, part):
    """An alike part with each state twice."""
    many = len(part)
    steps = [{name: goal + many * source.randrange(2) for name, goal in row.items()} for row in part.steps * 2]
    return Part(tuple(steps), part.rests + tuple(state + many for state in part.rests))


def parts_in(tables):
    return {name: part_of(table) for name, table in tables.items()}


class FilledFirst(unittest.TestCase):
    def test_the_same_parts(self):
        source = random.Random(1)
        found = {True: 0, False: 0}
        for system in some_systems(300, 21) + some_systems(100, 22, states=3, most_goals=0):
            joint, slot, wish, parts = objects(system)
            for first in parts:
                rest = {name: part for name, part in parts.items() if name != first}
                one = missing_wish(joint, slot, wish, parts)
                other = missing_wish(filled(joint, first, parts[first]), slot, wish, rest)
                self.assertTrue(keep_same(one, other))
                for table in parts_of_slot(system, source, 3):
                    right = does_keep(table, tables_of(one))
                    found[right] += 1
                    self.assertEqual(does_keep(table, tables_of(other)), right, (system, first, table))
        self.assertGreater(min(found.values()), 500)

    def test_example(self):
        one = missing_wish(belt(), "right", turns(), {"left": turn()})
        self.assertTrue(keep_same(missing_wish(filled(belt(), "left", turn()), "right", turns(), {}), one))


class Nested(unittest.TestCase):
    def test_the_same_parts(self):
        source = random.Random(2)
        found = {True: 0, False: 0}
        for joint, slot, other, inside, wish, inner, outer in some_nests(250, 23) + some_nests(100, 24, 0):
            made = nested(joint_of(joint), slot, joint_of(other))
            both = {**parts_in(inner), **parts_in(outer)}
            one = missing_wish(made, inside, wish_of(wish), both)
            between = missing_wish(joint_of(joint), slot, wish_of(wish), parts_in(outer))
            two = missing_wish(joint_of(other), inside, between, parts_in(inner))
            self.assertTrue(keep_same(one, two))
            names = other[0][inside]
            for table in small_parts(names) + [some_fillings(source, {"a": names})["a"] for _ in range(4)]:
                right = does_keep(table, tables_of(one))
                found[right] += 1
                self.assertEqual(does_keep(table, tables_of(two)), right)
        self.assertGreater(min(found.values()), 300)

    def test_both_wholes_keep_the_wish(self):
        for joint, slot, other, inside, wish, inner, outer in some_nests(60, 25):
            made = nested(joint_of(joint), slot, joint_of(other))
            both = {**parts_in(inner), **parts_in(outer)}
            missing = missing_wish(made, inside, wish_of(wish), both)
            for table in small_parts(other[0][inside]):
                part = part_of(table)
                whole = joint_of(other)({**parts_in(inner), inside: part})
                right = does_keep(table, tables_of(missing))
                self.assertEqual(fits(made, wish_of(wish), {**both, inside: part}), right)
                self.assertEqual(fits(joint_of(joint), wish_of(wish), {**parts_in(outer), slot: whole}), right)


class Alike(unittest.TestCase):
    def test_alike_joints_and_alike_parts(self):
        source = random.Random(3)
        for system in some_systems(150, 26):
            joint, slot, wish, parts = objects(system)
            other = {name: unrolled(source, part) for name, part in parts.items()}
            self.assertTrue(all(are_alike(parts[name], other[name]) for name in parts))
            twice = joint_of(doubled(source, system[0]))
            self.assertTrue(are_alike_joints(joint, twice))
            one = missing_wish(joint, slot, wish, parts)
            for two in (missing_wish(twice, slot, wish, other), missing_wish(least_joint(joint), slot, wish, parts),
                        missing_wish(joint, slot, wish, {name: part.least() for name, part in parts.items()})):
                self.assertTrue(keep_same(one, two))

    def test_wishes_on_the_whole_that_lie_within_others(self):
        source = random.Random(4)
        unlike = 0
        for system in some_systems(200, 27):
            joint, slot, wide, parts = objects(system)
            narrow = wide & wish_of(generous(source, some_wish(source, "xy", 2, 1)))
            self.assertTrue(is_within(narrow, wide))
            first, second = missing_wish(joint, slot, narrow, parts), missing_wish(joint, slot, wide, parts)
            self.assertTrue(is_within(first, second))
            unlike += not is_within(second, first)
        self.assertGreater(unlike, 20)

    def test_wishes_that_the_same_parts_keep(self):
        for system in some_systems(100, 28):
            joint, slot, wish, parts = objects(system)
            self.assertTrue(keep_same(missing_wish(joint, slot, wish, parts), missing_wish(joint, slot, narrowed(wish), parts)))


class Placed(unittest.TestCase):
    def test_each_part_in_the_place_of_each_other(self):
        unlike = 0
        for system in some_systems(80, 29):
            joint, slot, wish, parts = objects(system)
            missing = missing_wish(joint, slot, wish, parts)
            kept = [part_of(table) for table in parts_of_slot(system) if does_keep(table, tables_of(missing))]
            wholes = [joint({**parts, slot: part}) for part in kept]
            self.assertTrue(all(keeps(whole, wish) for whole in wholes))
            unlike += any(not are_alike(whole, wholes[0]) for whole in wholes)
        self.assertGreater(unlike, 4)

    def test_the_greatest_wish(self):
        # A wish that is not within the missing one has a part with which the whole does not keep the wish.
        source = random.Random(5)
        found = {True: 0, False: 0}
        for system in some_systems(200, 30):
            joint, slot, wish, parts = objects(system)
            names = system[0][0][slot]
            other = wish_of(generous(source, some_wish(source, names, 2, 1))) if names else free_wish(())
            other = other & free_wish(names)
            missing = missing_wish(joint, slot, wish, parts)
            try:
                part = parting_part(other, missing)
            except TooMany:
                continue
            found[part is None] += 1
            if part is not None:
                self.assertTrue(keeps(part, other))
                self.assertFalse(does_fit(system, table_of(part)))
            else:
                best = find_part(other)
                self.assertTrue(best is None or does_fit(system, table_of(best)))
        self.assertGreater(min(found.values()), 40)


if __name__ == "__main__":
    unittest.main()
