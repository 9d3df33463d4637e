"""Parts compared."""

import random
import unittest

from tests.helpers import lead, loose, names_in, offer_in, plain_words, right_word, ring, small_tables, some_tables
from tests.helpers import turn, values_of_every_kind
from tests.wishing import table_of
from whatparts.core import alike
from whatparts.core.alike import are_alike, covers, difference, is_difference, word_beyond
from whatparts.core.parts import Part
from whatparts.errors import InvalidPart

FUNCTIONS = (are_alike, difference, covers, word_beyond)


def slow():
    return Part(({"put": 1}, {"get": 2}, {"put": 1}), (0,))


def chain(many, last=()):
    """A part that does `a` so many times, and rests behind that."""
    return Part((*({"a": state + 1} for state in range(many)), dict(last)), (many,))


def small_pairs():
    """Tables of parts of which words of at most six actions tell all."""
    tables = small_tables()
    source = random.Random(3)
    pairs = [(source.choice(tables), source.choice(tables)) for _ in range(600)]
    some = [table for table in some_tables(900, "ab", seed=4) if len(table[0]) <= 3]
    return pairs + list(zip(some, some[1:]))


def words_of_both(one, other):
    names = sorted(set(names_in(one[0])) | set(names_in(other[0])))
    return plain_words(names, min(6, len(one[0]) + len(other[0])))


def plain_difference(one, other):
    for word in words_of_both(one, other):
        p, q = lead(one[0], word), lead(other[0], word)
        if p is not None and q is not None and offer_in(*one, p) != offer_in(*other, q):
            return word
    return None


def plain_beyond(one, other):
    for word in words_of_both(one, other):
        if lead(one[0], word) is None and lead(other[0], word) is not None:
            return word
    return None


class Interface(unittest.TestCase):
    def test_functions_stand_in_the_module(self):
        for function in (*FUNCTIONS, is_difference):
            self.assertEqual(function.__module__, "whatparts.core.alike")
            self.assertIs(vars(alike)[function.__name__], function)


class Differences(unittest.TestCase):
    def test_examples(self):
        self.assertEqual(difference(turn(), slow()), ("put", "get"))
        self.assertIs(are_alike(turn(), slow()), False)
        self.assertIs(are_alike(loose(), loose().least()), True)
        self.assertIsNone(difference(loose(), loose().least()))

    def test_empty_word(self):
        self.assertEqual(difference(Part(({},)), Part(({},), (0,))), ())
        self.assertEqual(difference(Part(({"a": 0},)), Part(({"b": 0},))), ())
        self.assertEqual(difference(Part(({"a": 0},)), Part(({"a": 0, "b": 0},))), ())

    def test_against_all_words(self):
        found = set()
        for one, other in small_pairs():
            word = plain_difference(one, other)
            found.add(word if word is None else len(word))
            parts = Part(*one), Part(*other)
            self.assertEqual(difference(*parts), word, (one, other))
            self.assertIs(are_alike(*parts), word is None)
            self.assertEqual(are_alike(*parts), parts[0].least() == parts[1].least())
        self.assertLessEqual({None, 0, 1, 2}, found)

    def test_first_of_equally_long_words(self):
        one = Part(({"a": 1, "b": 2}, {"c": 0}, {"c": 3}, {}))
        other = Part(({"a": 1, "b": 2}, {"c": 3}, {"c": 0}, {}))
        self.assertEqual(difference(one, other), ("a", "c"))
        one = Part(({"a": 1, "b": 2}, {"c": 1}, {"c": 3}, {}))
        other = Part(({"a": 1, "b": 2}, {"c": 1}, {"c": 0}, {}))
        self.assertEqual(difference(one, other), ("b", "c"))

    def test_unreached_states_have_no_meaning(self):
        self.assertTrue(are_alike(Part(({"a": 0}, {"b": 1}), (1,)), Part(({"a": 0},))))

    def test_eight_states(self):
        self.assertEqual(difference(ring(7), ring(8)), ("a",) * 7)
        self.assertEqual(difference(ring(8), ring(8, ())), ())
        self.assertEqual(difference(ring(8, (7,)), ring(8, ())), ("a",) * 7)
        self.assertEqual(difference(ring(8, (7,)), ring(7, ())), ("a",) * 7)
        self.assertTrue(are_alike(ring(8, ()), ring(1, ())))
        self.assertTrue(are_alike(ring(8, (0, 2, 4, 6)), ring(2)))
        self.assertTrue(are_alike(ring(6, (0, 3)), ring(3)))

    def test_difference_as_long_as_can_be(self):
        # The rests of both rings, the words of Fine and Wilf, are equal for m + n - 2 actions, and not longer.
        same = list(range(13))
        for _ in same:
            for place in range(13):
                for step in (7, 8):
                    if place + step < 13:
                        same[place] = same[place + step] = min(same[place], same[place + step])
        rests = tuple(place for place in range(8) if same[place] == 0)
        one, other = ring(8, rests), ring(7, tuple(place for place in rests if place < 7))
        self.assertEqual(difference(one, other), ("a",) * 13)
        self.assertTrue(is_difference(one, other, ("a",) * 13))

    def test_difference_is_short(self):
        for one, other in zip(some_tables(200, "ab", seed=14), some_tables(200, "ab", seed=15)):
            word = difference(Part(*one), Part(*other))
            self.assertTrue(word is None or len(word) < len(one[0]) + len(other[0]))

    def test_more_than_eight_states(self):
        long = Part.of_words((("a",) * 6,), (("a",) * 6,)) | Part.of_words((("a", "b") * 3,))
        self.assertGreater(len(long), 8)
        self.assertTrue(are_alike(long, long.least()))
        self.assertEqual(difference(long, chain(6)), ("a",))
        self.assertEqual(difference(long, long.without(("b",))), ("a",))
        both = ring(7) & ring(8)
        self.assertEqual(len(both), 56)
        self.assertEqual(difference(both, ring(8)), ("a",) * 8)
        self.assertEqual(difference(both, ring(7, ()) & ring(8)), ())
        self.assertEqual(difference(ring(7, (6,)) & ring(8, (7,)), ring(1, ())), ("a",) * 55)
        self.assertTrue(are_alike(both, ring(8) & ring(7)))

    def test_is_difference_against_all_words(self):
        for one, other in small_pairs()[::10]:
            parts = Part(*one), Part(*other)
            for word in plain_words("ab", 4):
                p, q = lead(one[0], word), lead(other[0], word)
                right = p is not None and q is not None and offer_in(*one, p) != offer_in(*other, q)
                self.assertIs(is_difference(*parts, word), right)

    def test_is_difference_takes_longer_words(self):
        self.assertIs(is_difference(turn(), slow(), ("put", "get") * 30), True)
        self.assertIs(is_difference(turn(), slow(), ("put", "get") * 30 + ("put",)), False)

    def test_is_difference_of_every_kind(self):
        one, other = Part(({"put": 0, "a": 0},)), Part(({"put": 0, "a": 0},), (0,))
        for value in values_of_every_kind():
            right = right_word(value) and set(value) <= {"put", "a"}
            self.assertIs(is_difference(one, other, value), right, value)
            self.assertIs(is_difference(one, one, value), False, value)
        self.assertIs(is_difference(one, other, ["put"]), False)


class Covers(unittest.TestCase):
    def test_examples(self):
        self.assertIs(covers(turn(), slow()), True)
        self.assertEqual(word_beyond(turn(), Part(({"put": 0},))), ("put", "put"))

    def test_against_all_words(self):
        found = set()
        for one, other in small_pairs():
            word = plain_beyond(one, other)
            found.add(word if word is None else len(word))
            self.assertEqual(word_beyond(Part(*one), Part(*other)), word, (one, other))
            self.assertIs(covers(Part(*one), Part(*other)), word is None)
        self.assertLessEqual({None, 1, 2}, found)

    def test_of_the_second_part(self):
        more, less = Part(({"a": 0, "b": 0},)), Part(({"b": 0},))
        self.assertEqual(word_beyond(less, more), ("a",))
        self.assertIsNone(word_beyond(more, less))
        self.assertEqual([covers(more, less), covers(less, more)], [True, False])

    def test_first_of_several(self):
        one = Part(({"a": 0, "b": 1, "c": 0}, {"a": 0}))
        other = Part(({"a": 1, "b": 1}, {"d": 0, "c": 0, "b": 0, "a": 1}))
        self.assertEqual(word_beyond(one, other), ("a", "d"))
        other = Part(({"a": 0, "b": 1}, {"d": 0, "c": 0, "b": 0, "a": 1}))
        self.assertEqual(word_beyond(one, other), ("b", "b"))

    def test_rests_have_no_meaning(self):
        self.assertTrue(covers(ring(3, (0, 1)), ring(3, ())))
        self.assertTrue(covers(ring(3, ()), ring(8, (0, 1))))

    def test_no_actions(self):
        self.assertTrue(covers(Part(({},)), Part(({}, {"a": 0}))))
        self.assertEqual(word_beyond(Part(({}, {"a": 0})), turn()), ("put",))

    def test_eight_states_and_more(self):
        self.assertEqual(word_beyond(chain(6), chain(7)), ("a",) * 7)
        self.assertIsNone(word_beyond(chain(7), chain(6)))
        self.assertEqual(word_beyond(chain(7), ring(7) & ring(8)), ("a",) * 8)
        self.assertIsNone(word_beyond(ring(7) & ring(8), chain(7)))
        for one, other in zip(some_tables(40, seed=12), some_tables(40, seed=13)):
            one, other = Part(*one), Part(*other)
            self.assertTrue(covers(one, one & other))
            word = word_beyond(one, other)
            self.assertEqual(covers(one & other, other), word is None)
            if word is not None:
                self.assertEqual([word in one, word in other, word[:-1] in one], [False, True, True])


class Wrong(unittest.TestCase):
    def test_no_parts(self):
        for value in values_of_every_kind():
            if isinstance(value, Part):
                continue
            for function in FUNCTIONS:
                for values in ((value, turn()), (turn(), value), (value, value)):
                    with self.assertRaises(InvalidPart, msg=value):
                        function(*values)
            for values in ((value, turn()), (turn(), value), (value, value)):
                with self.assertRaises(InvalidPart, msg=value):
                    is_difference(*values, ("put",))

    def test_nothing_is_changed(self):
        one, other = turn(), slow()
        for function in FUNCTIONS:
            function(one, other)
        is_difference(one, other, ("put", "get"))
        self.assertEqual([table_of(one), table_of(other)], [table_of(turn()), table_of(slow())])


if __name__ == "__main__":
    unittest.main()
