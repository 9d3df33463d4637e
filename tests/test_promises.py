"""What the document promises of all wishes and joints, and what it says is not true of them."""

import random
import unittest

from tests.missing import objects, parts_of_slot, some_systems
from tests.solving import can_be_kept, small_tables_of
from tests.test_solved import no
from tests.wishing import LEFT, RIGHT, does_keep, few, part_of, some_wishes, tables_of, two, wish_of
from whatparts.core.parts import Part
from whatparts.glue.inner import are_alike_joints, least_joint
from whatparts.miss.compared import are_same, freest_part, is_within, parting_part
from whatparts.miss.contracts import whatever_wish
from whatparts.miss.exact import fits, missing_wish
from whatparts.miss.solved import find_part, is_solve_paper, rounds, solve_paper
from whatparts.want.keeping import keeps
from whatparts.want.wishes import Wish


class Promised(unittest.TestCase):
    def test_a_wish_on_the_missing_part(self):
        source = random.Random(1)
        for system in some_systems(80, 31):
            joint, slot, wish, others = objects(system)
            missing = missing_wish(joint, slot, wish, others)
            for table in parts_of_slot(system, source, 2):
                self.assertEqual(keeps(part_of(table), missing), fits(joint, wish, {**others, slot: part_of(table)}))

    def test_some_part_or_rounds(self):
        for tables in some_wishes(150, "abc", 32, 2):
            wish = wish_of(tables)
            part = find_part(wish)
            ruled_out = any(0 in row for row in rounds(wish))
            self.assertEqual(part is None, ruled_out)
            self.assertEqual(solve_paper(wish)[0], "rounds" if ruled_out else "part")
            self.assertTrue(is_solve_paper(wish, solve_paper(wish)))

    def test_comparisons_are_decided(self):
        wishes = [wish_of(tables) for tables in some_wishes(14, "ab", 33, 1)]
        for one in wishes:
            for other in wishes:
                part = parting_part(one, other)
                self.assertEqual(is_within(one, other), part is None)
                if part is not None:
                    self.assertTrue(keeps(part, one) and not keeps(part, other))

    def test_parts_that_are_known_by_wishes(self):
        for system in some_systems(60, 34, most_goals=0):
            joint, slot, wish, others = objects(system)
            self.assertTrue(are_same(whatever_wish(joint, slot, wish, others), missing_wish(joint, slot, wish, others)))
            self.assertTrue(are_alike_joints(joint, least_joint(joint)))


class NotPromised(unittest.TestCase):
    def test_goals_that_can_be_served_alone(self):
        goals = no().goals[0]
        for goal in goals:
            self.assertIsNotNone(find_part(Wish.of(no().offers, no().steps, ((goal,),))))
        self.assertIsNone(find_part(no()))

    def test_parts_with_no_more_states_than_the_wish(self):
        self.assertTrue(can_be_kept(tables_of(two())))
        self.assertEqual([len(two()), any(does_keep(table, tables_of(two())) for table in small_tables_of("lr", 1))], [1, False])

    def test_parts_with_the_words_of_both(self):
        wish = Wish(((LEFT, RIGHT),), ({"l": 0, "r": 0},))
        one, other = Part(({"l": 0},)), Part(({"r": 0},))
        self.assertEqual([keeps(one, wish), keeps(other, wish), keeps(one | other, wish)], [True, True, False])

    def test_a_part_with_the_words_of_all(self):
        self.assertEqual([find_part(few()) is None, freest_part(few())], [False, None])


if __name__ == "__main__":
    unittest.main()
