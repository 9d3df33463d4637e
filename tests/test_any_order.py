"""Slots filled in any order, and joints nested: the wishes that follow are kept by the same parts."""

import random
import unittest

from tests.helpers import turn
from tests.joining import belt, joint_of, small_parts, some_fillings, some_joint
from tests.missing import does_fit, generous, objects, parts_of_slot, some_systems
from tests.wishing import does_keep, part_of, some_wish, tables_of, turns, wish_of
from whatparts.glue.inner import filled, nested
from whatparts.glue.joints import Joint
from whatparts.miss.exact import fits, missing_wish, standings_after


def some_nests(many, seed, most_goals=2):
    """A joint with a slot, a joint for this slot with a slot of it, parts for all others, and a wish."""
    source = random.Random(seed)
    found = []
    while len(found) < many:
        joint = some_joint(source, names=("left", "right"), inner="ab", outer="xy")
        other = some_joint(source, names=("d", "e"), inner="ab", outer="ab")
        slot, inside = source.choice(sorted(joint[0])), source.choice(sorted(other[0]))
        joint = ({**joint[0], slot: ("a", "b")}, *joint[1:])
        outer = some_fillings(source, {name: names for name, names in joint[0].items() if name != slot}, 2)
        inner = some_fillings(source, {name: names for name, names in other[0].items() if name != inside}, 2)
        wish = generous(source, some_wish(source, "xy", source.choice((1, 2)), most_goals))
        found.append((joint, slot, other, inside, wish, inner, outer))
    return found


def parts_in(tables):
    return {name: part_of(table) for name, table in tables.items()}


class FilledFirst(unittest.TestCase):
    def test_the_same_parts(self):
        source = random.Random(1)
        found = {True: 0, False: 0}
        for system in some_systems(300, 21) + some_systems(100, 22, states=3, most_goals=0):
            joint, slot, wish, parts = objects(system)
            for first in parts:
                rest = {name: part for name, part in parts.items() if name != first}
                one = missing_wish(joint, slot, wish, parts)
                other = missing_wish(filled(joint, first, parts[first]), slot, wish, rest)
                for table in parts_of_slot(system, source, 3):
                    right = does_keep(table, tables_of(one))
                    found[right] += 1
                    self.assertEqual(does_keep(table, tables_of(other)), right, (system, first, table))
        self.assertGreater(min(found.values()), 500)

    def test_example(self):
        one = missing_wish(belt(), "right", turns(), {"left": turn()})
        self.assertEqual(missing_wish(filled(belt(), "left", turn()), "right", turns(), {}).offers, one.offers)


class Nested(unittest.TestCase):
    def test_the_same_parts(self):
        source = random.Random(2)
        found = {True: 0, False: 0}
        for joint, slot, other, inside, wish, inner, outer in some_nests(250, 23) + some_nests(100, 24, 0):
            made = nested(joint_of(joint), slot, joint_of(other))
            both = {**parts_in(inner), **parts_in(outer)}
            one = missing_wish(made, inside, wish_of(wish), both)
            between = missing_wish(joint_of(joint), slot, wish_of(wish), parts_in(outer))
            two = missing_wish(joint_of(other), inside, between, parts_in(inner))
            names = other[0][inside]
            for table in small_parts(names) + [some_fillings(source, {"a": names})["a"] for _ in range(4)]:
                right = does_keep(table, tables_of(one))
                found[right] += 1
                self.assertEqual(does_keep(table, tables_of(two)), right)
        self.assertGreater(min(found.values()), 300)

    def test_both_wholes_keep_the_wish(self):
        for joint, slot, other, inside, wish, inner, outer in some_nests(60, 25):
            made = nested(joint_of(joint), slot, joint_of(other))
            both = {**parts_in(inner), **parts_in(outer)}
            missing = missing_wish(made, inside, wish_of(wish), both)
            for table in small_parts(other[0][inside]):
                part = part_of(table)
                whole = joint_of(other)({**parts_in(inner), inside: part})
                right = does_keep(table, tables_of(missing))
                self.assertEqual(fits(made, wish_of(wish), {**both, inside: part}), right)
                self.assertEqual(fits(joint_of(joint), wish_of(wish), {**parts_in(outer), slot: whole}), right)


class Placed(unittest.TestCase):
    def test_each_part_in_the_place_of_each_other(self):
        for system in some_systems(60, 26):
            wish = tables_of(missing_wish(*objects(system)))
            for table in parts_of_slot(system):
                self.assertEqual(does_keep(table, wish), does_fit(system, table))

    def test_alike_joints_and_parts(self):
        one = Joint(belt().slots, ({"put": ({"left": "put"}, 1), "take": ({"left": "get", "right": "take"}, 1)},
                                   {"put": ({"left": "put"}, 0), "take": ({"left": "get", "right": "take"}, 0)}),
                    (("left",), ("left",)))
        left = part_of((({"put": 1}, {"get": 2}, {"put": 3}, {"get": 0}), (0, 2)))
        self.assertEqual(len(standings_after(one, "right", turns(), {"left": left}, ())), 2)
        first = tables_of(missing_wish(belt(), "right", turns(), {"left": turn()}))
        second = tables_of(missing_wish(one, "right", turns(), {"left": left}))
        for table in small_parts(("take",)):
            self.assertEqual(does_keep(table, first), does_keep(table, second))


if __name__ == "__main__":
    unittest.main()
