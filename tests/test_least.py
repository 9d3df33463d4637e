"""Least parts: alike, with the fewest states, numbered by the first words."""

import random
import unittest

from tests.helpers import are_alike_tables, first_words, is_least_table, loose, ring, small_tables, some_tables, turn
from whatparts.core.parts import Part


def shuffled(steps, rests, source):
    """The same part with the states behind the first one in another order."""
    places = [0, *source.sample(range(1, len(steps)), len(steps) - 1)]
    rows = [{} for _ in steps]
    for state, row in enumerate(steps):
        rows[places[state]] = {name: places[goal] for name, goal in row.items()}
    return tuple(rows), tuple(sorted(places[state] for state in rests))


class Least(unittest.TestCase):
    def check(self, steps, rests):
        part = Part(steps, rests)
        least = part.least()
        self.assertTrue(are_alike_tables((steps, rests), (least.steps, least.rests)))
        self.assertTrue(is_least_table(least.steps, least.rests))
        self.assertEqual(least.least(), least)
        self.assertIs(least.is_least, True)
        self.assertIs(part.is_least, is_least_table(steps, rests))
        self.assertIs(part.is_least, part == least)
        self.assertEqual(list(least.rests), sorted(least.rests))
        for row in least.steps:
            self.assertEqual(list(row), sorted(row))

    def test_all_small_parts(self):
        for steps, rests in small_tables():
            self.check(steps, rests)

    def test_larger_parts(self):
        for steps, rests in some_tables(200):
            self.check(steps, rests)
        for steps, rests in some_tables(200, "ab", seed=2):
            self.check(steps, rests)

    def test_states_numbered_otherwise(self):
        source = random.Random(3)
        for steps, rests in [*some_tables(100, "abc", seed=4), *small_tables()[-200:]]:
            other = Part(*shuffled(steps, rests, source))
            self.assertEqual(other.least(), Part(steps, rests).least())
            self.assertIs(other.is_least, is_least_table(other.steps, other.rests))

    def test_unreached_states_go(self):
        part = Part(({"a": 0}, {"b": 0}, {"a": 1}), (1,))
        self.assertEqual(part.least(), Part(({"a": 0},)))
        self.assertIs(part.is_least, False)
        self.assertIs(Part(({"a": 0},)).is_least, True)
        self.assertEqual(Part(({}, {})).least(), Part(({},)))

    def test_states_that_do_the_same_become_one(self):
        self.assertEqual(ring(8, tuple(range(8))).least(), ring(1, (0,)))
        self.assertEqual(ring(8, (0, 2, 4, 6)).least(), ring(2))
        self.assertEqual(ring(6, (1, 4)).least(), ring(3, (1,)))
        self.assertEqual(ring(8, (7,)).least(), ring(8, (7,)))
        self.assertIs(ring(8, (7,)).is_least, True)
        self.assertEqual(Part(({"a": 1}, {"a": 1})).least(), ring(1, ()))

    def test_rest_and_actions_tell_states_apart(self):
        self.assertIs(Part(({"a": 1}, {"a": 1}), (1,)).is_least, True)
        self.assertIs(Part(({"a": 1}, {"b": 1})).is_least, True)
        self.assertIs(Part(({"a": 1, "b": 0}, {"a": 1}),).is_least, True)
        self.assertIs(Part(({"a": 1}, {})).is_least, True)

    def test_differences_far_away(self):
        chain = Part((*({"a": state + 1} for state in range(7)), {}))
        self.assertIs(chain.is_least, True)
        fork = Part(({"a": 1, "b": 4}, {"a": 2}, {"a": 3}, {}, {"a": 5}, {"a": 6}, {}), (6,))
        self.assertIs(fork.is_least, True if first_words(fork.steps)[2] < first_words(fork.steps)[4] else False)
        self.assertEqual(len(fork.least()), 7)

    def test_numbering_by_first_words(self):
        part = Part(({"b": 1, "a": 2}, {"a": 0}, {"b": 1}))
        self.assertEqual(part.least(), Part(({"a": 1, "b": 2}, {"b": 2}, {"a": 0})))
        self.assertIs(part.is_least, False)
        # A shorter word is before a longer one, whatever its letters.
        part = Part(({"a": 2, "z": 1}, {}, {"a": 3}, {"b": 0}), (1,))
        self.assertEqual(part.least(), Part(({"a": 1, "z": 2}, {"a": 3}, {}, {"b": 0}), (2,)))
        # Names are compared as Python compares strings, not by their lengths.
        part = Part(({"b": 1, "ab": 2}, {"c": 0}, {"d": 0}))
        self.assertEqual(part.least(), Part(({"ab": 1, "b": 2}, {"d": 0}, {"c": 0})))

    def test_given_parts(self):
        self.assertIs(turn().is_least, True)
        self.assertEqual(turn().least(), turn())
        self.assertIs(loose().is_least, False)
        self.assertEqual(loose().least(), Part(({"a": 1}, {"a": 1, "b": 2}, {"a": 2}), (2,)))

    def test_a_part_with_many_states(self):
        # Two rings of seven and eight states together have a state for each pair.
        part = ring(7) & ring(8)
        self.assertEqual(len(part), 56)
        self.assertIs(part.is_least, True)
        self.assertEqual(part.least(), part)
        other = part.without(("b",))
        self.assertEqual([other, other.is_least], [part, True])
        bare = part.without(("a",))
        self.assertEqual([len(bare), bare.is_least, bare.least()], [56, False, Part(({},), (0,))])


if __name__ == "__main__":
    unittest.main()
