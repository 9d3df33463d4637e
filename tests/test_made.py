"""Parts that are made of parts, and of words."""

import itertools
import random
import unittest

from tests.helpers import follows_both, is_least_table, join_of_any, join_of_both, lead, loose, names_in, offer_in
from tests.helpers import plain_words, right_set, right_word, ring, small_tables, some_tables, turn
from tests.helpers import values_of_every_kind
from whatparts.core.parts import Part
from whatparts.errors import InvalidNumber, InvalidOperation, InvalidPart, TooMany


def table(part):
    return part.steps, part.rests


def are_in_order(part):
    return isinstance(part.steps, tuple) and isinstance(part.rests, tuple) and \
        all(list(row) == sorted(row) for row in part.steps) and list(part.rests) == sorted(set(part.rests))


def table_pairs():
    """Pairs of tables that share all, some or none of their actions."""
    small = small_tables()
    source = random.Random(5)
    pairs = [(source.choice(small), source.choice(small)) for _ in range(300)]
    pairs += zip(some_tables(60, "abcd", seed=6), some_tables(60, "abcd", seed=7))
    pairs += zip(some_tables(60, "ab", seed=8), some_tables(60, "bc", seed=9))
    pairs += zip(some_tables(30, "ab", seed=10), some_tables(30, "cd", seed=11))
    return pairs


class Renamed(unittest.TestCase):
    def test_words_and_offers(self):
        part = turn().renamed({"put": "a", "get": "b"})
        self.assertEqual(part, Part(({"a": 1}, {"b": 0}), (0,)))

    def test_names_exchanged(self):
        self.assertEqual(turn().renamed({"put": "get", "get": "put"}), Part(({"get": 1}, {"put": 0}), (0,)))
        part = Part(({"a": 1, "b": 0, "c": 1}, {"a": 0}))
        self.assertEqual(part.renamed({"a": "b", "b": "c", "c": "a"}), Part(({"b": 1, "c": 0, "a": 1}, {"b": 0})))

    def test_all_short_words(self):
        for steps, rests in some_tables(60):
            old = names_in(steps)
            for new in (old, tuple(reversed(old)), ("x", "d", "a", "put")[:len(old)]):
                names = dict(zip(old, new))
                part = Part(steps, rests).renamed(names)
                self.assertTrue(are_in_order(part))
                self.assertEqual([len(part), part.rests, part.actions], [len(steps), rests, tuple(sorted(new))])
                for word in plain_words(old, 3):
                    self.assertEqual(part.after(tuple(names[name] for name in word)), lead(steps, word))
                for state in range(len(steps)):
                    actions, resting = offer_in(steps, rests, state)
                    self.assertEqual(part.offer(state), (tuple(sorted(names[name] for name in actions)), resting))

    def test_order_of_the_dict_has_no_meaning(self):
        self.assertEqual(turn().renamed({"put": "a", "get": "b"}), turn().renamed({"get": "b", "put": "a"}))

    def test_the_same_states(self):
        self.assertEqual(loose().renamed({"a": "b", "b": "a"}), Part(({"b": 2}, {"b": 1}, {"b": 2, "a": 1}), (1,)))

    def test_no_actions(self):
        self.assertEqual(Part(({}, {}), (1,)).renamed({}), Part(({}, {}), (1,)))

    def test_actions_of_unreached_states_count(self):
        part = Part(({"a": 0}, {"b": 0}))
        self.assertEqual(part.renamed({"a": "x", "b": "y"}), Part(({"x": 0}, {"y": 0})))
        with self.assertRaises(InvalidOperation):
            part.renamed({"a": "x"})

    def test_wrong_names(self):
        for names in ({}, {"put": "a"}, {"get": "a"}, {"put": "a", "get": "a"}, {"put": "get", "get": "get"},
                      {"put": "a", "get": "b", "x": "c"}, {"put": "a", "x": "b"}, {"put": "a", "get": "B"},
                      {"put": "a", "get": ""}, {"put": "a", "get": "abcdefghi"}, {"put": "a", "get": None},
                      {"put": "a", "get": 1}, {"put": "a", "get": ["b"]}, {"put": ["a"], "get": ["a"]},
                      {"put": {}, "get": "b"}, {"put": ("a",), "get": "b"}, {"put": "a", None: "b"}, {"put": "a", 0: "b"},
                      (("get", "b"), ("put", "a")), ("get", "put"), [("put", "a"), ("get", "b")], None, "put"):
            with self.assertRaises(InvalidOperation, msg=names):
                turn().renamed(names)

    def test_values_of_every_kind(self):
        for value in values_of_every_kind():
            with self.assertRaises(InvalidOperation, msg=value):
                turn().renamed(value)
            with self.assertRaises(InvalidOperation, msg=value):
                turn().renamed({"put": "b", "get": value, "more": "a"})
            if not (isinstance(value, str) and value in ("a", "put", "get", "abcdefgh")):
                with self.assertRaises(InvalidOperation, msg=value):
                    turn().renamed({"put": "b", "get": value})

    def test_many_states(self):
        part = (ring(7) & ring(8)).renamed({"a": "go"})
        self.assertEqual([len(part), part.rests, part[("go",) * 56]], [56, (0,), (("go",), True)])


class Without(unittest.TestCase):
    def test_same_states_without_steps(self):
        self.assertEqual(turn().without(("put",)), Part(({}, {"get": 0}), (0,)))
        self.assertEqual(turn().without(("get", "put")), Part(({}, {}), (0,)))
        self.assertEqual(turn().without(()), turn())

    def test_names_that_are_no_actions(self):
        self.assertEqual(turn().without(("x",)), turn())
        self.assertEqual(turn().without(("a", "b", "c", "d", "get", "x")), Part(({"put": 1}, {}), (0,)))

    def test_all_short_words(self):
        for steps, rests in some_tables(60):
            for names in ((), ("a",), ("b", "d"), ("a", "b", "c", "d"), ("e", "f", "g", "h", "i")):
                part = Part(steps, rests).without(names)
                self.assertTrue(are_in_order(part))
                self.assertEqual([len(part), part.rests], [len(steps), rests])
                for word in plain_words(names_in(steps), 3):
                    expected = None if set(word) & set(names) else lead(steps, word)
                    self.assertEqual(part.after(word), expected)
                for state, row in enumerate(part.steps):
                    self.assertEqual(row, {name: steps[state][name] for name in steps[state] if name not in names})

    def test_what_is_no_set(self):
        for value in [*values_of_every_kind(), ("put", "get"), ("put", "put"), ["put"], "put", {"put": 0}, None, ("PUT",)]:
            if not right_set(value):
                with self.assertRaises(InvalidOperation, msg=value):
                    turn().without(value)


class Joins:
    """What holds of both operators. Those below tell which one, and what the offers become by it."""

    def check(self, one, other):
        made = self.join(Part(*one), Part(*other))
        self.assertTrue(follows_both(one, other, table(made), self.join_offers))
        self.assertTrue(is_least_table(made.steps, made.rests))
        self.assertTrue(made.is_least)
        self.assertTrue(are_in_order(made))
        return made

    def test_pairs(self):
        for one, other in table_pairs():
            made = self.check(one, other)
            self.assertEqual(made, self.join(Part(*other), Part(*one)))

    def test_with_itself(self):
        for steps, rests in some_tables(40):
            part = Part(steps, rests)
            self.assertEqual(self.join(part, part), part.least())


class Both(Joins, unittest.TestCase):
    join = staticmethod(lambda one, other: one & other)
    join_offers = staticmethod(join_of_both)

    def test_all_short_words(self):
        for one, other in table_pairs()[::6]:
            made = Part(*one) & Part(*other)
            for word in plain_words(sorted({*names_in(one[0]), *names_in(other[0])}), 3):
                first, second = lead(one[0], word), lead(other[0], word)
                self.assertIs(word in made, first is not None and second is not None)
                if word in made:
                    self.assertIs(made[word][1], first in one[1] and second in other[1])

    def test_no_action_shared(self):
        self.assertEqual(turn() & ring(3), Part(({},), (0,)))
        self.assertEqual(turn() & ring(3, ()), Part(({},)))

    def test_parts_without_steps(self):
        self.assertEqual(turn() & Part(({},), (0,)), Part(({},), (0,)))
        self.assertEqual(turn() & Part(({},)), Part(({},)))
        self.assertEqual(Part(({}, {}), (0, 1)) & Part(({},), (0,)), Part(({},), (0,)))

    def test_more_than_four_actions_together(self):
        for one, other in zip(some_tables(60, "abcd", seed=12), some_tables(60, "cdef", seed=13)):
            self.check(one, other)
        one = Part(({"a": 0, "b": 0, "c": 0, "d": 0},), (0,))
        other = Part(({"d": 1, "e": 0, "f": 0, "g": 0}, {}), (0,))
        self.assertEqual(one & other, Part(({"d": 1}, {}), (0,)))
        self.assertEqual(one & one.renamed({"a": "e", "b": "f", "c": "g", "d": "h"}), Part(({},), (0,)))

    def test_rests_where_both_rest(self):
        self.assertEqual(ring(2) & ring(2), ring(2))
        self.assertEqual(ring(2) & ring(2, (1,)), ring(1, ()))
        self.assertEqual(ring(2) & ring(2, ()), ring(1, ()))

    def test_more_than_eight_states(self):
        made = self.check(table(ring(7)), table(ring(8)))
        self.assertEqual(len(made), 56)
        self.assertEqual(len(made & ring(5)), 280)
        self.assertEqual(made & ring(4), made)
        self.assertEqual(str(made), "part of 56 states, 1 actions")
        self.assertEqual(made.offer(55), (("a",), False))
        with self.assertRaises(InvalidNumber):
            made.offer(56)

    def test_no_part_on_the_right(self):
        for value in values_of_every_kind():
            if not isinstance(value, Part):
                with self.assertRaises(InvalidPart, msg=value):
                    turn() & value


class Any(Joins, unittest.TestCase):
    join = staticmethod(lambda one, other: one | other)
    join_offers = staticmethod(join_of_any)

    def test_all_short_words(self):
        for one, other in table_pairs()[::6]:
            made = Part(*one) | Part(*other)
            for word in plain_words(sorted({*names_in(one[0]), *names_in(other[0])}), 3):
                first, second = lead(one[0], word), lead(other[0], word)
                self.assertIs(word in made, first is not None or second is not None)
                if word in made:
                    self.assertIs(made[word][1], first in one[1] or second in other[1])

    def test_no_action_shared(self):
        made = turn() | ring(2, (1,))
        self.assertEqual(made, Part(({"a": 1, "put": 2}, {"a": 3}, {"get": 4}, {"a": 1}, {"put": 2}), (0, 1, 4)))

    def test_parts_without_steps(self):
        self.assertEqual(turn() | Part(({},)), turn())
        self.assertEqual(Part(({"a": 0},)) | Part(({},), (0,)), Part(({"a": 1}, {"a": 1}), (0,)))
        self.assertEqual(Part(({},)) | Part(({}, {}), (0,)), Part(({},), (0,)))

    def test_rests_only_where_one_that_has_the_word_rests(self):
        # The second part does not have the word (a, a), so that it cannot rest after it.
        made = Part(({"a": 1}, {"a": 2}, {})) | Part(({"a": 1}, {}), (0, 1))
        self.assertEqual(made, Part(({"a": 1}, {"a": 2}, {}), (0, 1)))

    def test_more_than_eight_states(self):
        self.assertEqual(len(self.check(table(ring(7)), table(ring(8)))), 56)

    def test_four_actions_together(self):
        one, other = Part(({"a": 0, "b": 0},), (0,)), Part(({"c": 0, "d": 0},))
        self.assertEqual((one | other).actions, ("a", "b", "c", "d"))
        full = Part(({"a": 0, "b": 0, "c": 0, "d": 0},))
        self.assertEqual(full | full, full)
        self.assertEqual(full | one, full | Part(({"a": 0, "b": 0},), (0,)))

    def test_too_many_actions_together(self):
        full = Part(({"a": 0, "b": 0, "c": 0, "d": 0},))
        for one, other in ((full, Part(({"e": 0},))), (Part(({"e": 0},)), full), (turn(), Part(({"a": 0, "b": 0, "c": 0},))),
                           (full, full.renamed({"a": "e", "b": "f", "c": "g", "d": "h"}))):
            with self.assertRaises(TooMany) as caught:
                one | other
            self.assertEqual(caught.exception.limit, 4)

    def test_actions_of_unreached_states_count(self):
        one = Part(({"a": 0}, {"b": 0}))
        with self.assertRaises(TooMany):
            one | Part(({"c": 0, "d": 0, "e": 0},))
        self.assertEqual((one | Part(({"b": 0, "c": 0, "d": 0},))).actions, ("a", "b", "c", "d"))

    def test_no_part_on_the_right(self):
        full = Part(({"a": 0, "b": 0, "c": 0, "d": 0},))
        for value in [*values_of_every_kind(), ("e",), full.steps]:
            if not isinstance(value, Part):
                for part in (turn(), full):
                    with self.assertRaises(InvalidPart, msg=value):
                        part | value


class OfWords(unittest.TestCase):
    def check(self, words, rests):
        part = Part.of_words(words, rests)
        beginnings = {word[:length] for word in [(), *words] for length in range(len(word) + 1)}
        self.assertEqual(list(part.words(6)), sorted(beginnings, key=lambda word: (len(word), word)))
        for word in beginnings:
            actions = sorted(found[-1] for found in beginnings if found and found[:-1] == word)
            self.assertEqual(part[word], (tuple(actions), word in rests))
        self.assertTrue(is_least_table(part.steps, part.rests))
        self.assertTrue(part.is_least)
        self.assertTrue(are_in_order(part))
        return part

    def test_few_words(self):
        self.assertEqual(Part.of_words((("a", "b"), ("a",)), (("a",),)), Part(({"a": 1}, {"b": 2}, {}), (1,)))
        self.assertEqual(Part.of_words((("b", "a"),)), Part(({"b": 1}, {"a": 2}, {})))
        self.assertEqual(Part.of_words((("a",), ("b",))), Part(({"a": 1, "b": 1}, {})))
        self.assertEqual(Part.of_words((("a",), ("b",)), (("b",),)), Part(({"a": 1, "b": 2}, {}, {}), (2,)))

    def test_no_words(self):
        for words in ((), ((),), ((), ())):
            self.assertEqual(Part.of_words(words), Part(({},)))
            self.assertEqual(Part.of_words(words, ((),)), Part(({},), (0,)))

    def test_order_and_repetition_have_no_meaning(self):
        words = (("a", "b"), ("b",), ("a", "a", "a"), ("b", "a"))
        expected = self.check(words, (("b",), ("a", "a")))
        for order in itertools.permutations(words):
            self.assertEqual(Part.of_words((*order, *words), (("a", "a"), ("b",), ("a", "a"))), expected)

    def test_rests_after_beginnings(self):
        self.check((("a", "b", "c"),), ((), ("a",)))
        self.check((("a", "b", "c"),), (("a", "b", "c"), ("a", "b")))

    def test_all_sets_of_short_words(self):
        short = plain_words("ab", 2)
        for many in range(4):
            for words in itertools.combinations(short, many):
                beginnings = sorted({word[:length] for word in [(), *words] for length in range(len(word) + 1)})
                for rests in ((), tuple(beginnings), tuple(beginnings[::2]), tuple(beginnings[-1:])):
                    self.check(words, rests)

    def test_some_sets_of_words(self):
        source = random.Random(14)
        for many in (1, 5, 20, 39, 40):
            for actions in ("a", "ab", "abcd"):
                words = tuple(tuple(source.choices(actions, k=source.randint(0, 6))) for _ in range(many))
                beginnings = sorted({word[:length] for word in words for length in range(len(word) + 1)})
                rests = tuple(source.sample(beginnings, source.randint(0, len(beginnings))))
                self.check(words, rests)

    def test_forty_words_and_forty_one(self):
        words = tuple(plain_words("ab", 5)[-41:])
        self.assertGreater(len(self.check(words[:40], words[:40:3])), 8)
        with self.assertRaises(InvalidOperation):
            Part.of_words(words)
        self.assertEqual(Part.of_words((("a",),) * 40), Part(({"a": 1}, {})))
        with self.assertRaises(InvalidOperation):
            Part.of_words((("a",),) * 41)

    def test_six_actions_in_a_word_and_seven(self):
        self.assertEqual(len(self.check((("a",) * 6, ("b", "a") * 3), ())), 11)
        for words in ((("a",) * 7,), ((), ("a",), ("a", "b") * 4), (("a",) * 300,)):
            with self.assertRaises(InvalidOperation):
                Part.of_words(words)

    def test_four_actions_together_and_five(self):
        self.check((("a", "b"), ("c", "d")), ())
        for words in ((("a", "b", "c", "d", "e"),), (("a", "b"), ("c", "d"), ("e",)), tuple((name,) for name in "vwxyz")):
            with self.assertRaises(InvalidOperation):
                Part.of_words(words)

    def test_rests_are_without_limit_in_number(self):
        words = tuple(plain_words("ab", 5)[-32:])
        self.check(words, tuple(plain_words("ab", 5)))
        self.assertEqual(Part.of_words((), ((),) * 50), Part(({},), (0,)))

    def test_wrong_words(self):
        for value in [*values_of_every_kind(), "a", ("a",), (("a",), "b"), [("a",)], (["a"],), ((0,),), (("A",),), None]:
            if not (isinstance(value, tuple) and all(right_word(word) for word in value)):
                with self.assertRaises(InvalidOperation, msg=value):
                    Part.of_words(value)
            if not right_word(value):
                with self.assertRaises(InvalidOperation, msg=value):
                    Part.of_words((("a",), value))

    def test_wrong_rests(self):
        words = (("a", "b"),)
        for value in [*values_of_every_kind(), (("b",),), ((), ("a", "a")), (("a", "b", "a"),), [()], [], "", None,
                      (("a",), ["a"]), (("a",), "a"), ({},), ([],)]:
            if value not in ((), ((),), (("a",),)):
                with self.assertRaises(InvalidOperation, msg=value):
                    Part.of_words(words, value)
            if value != () and value != ("a",):
                with self.assertRaises(InvalidOperation, msg=value):
                    Part.of_words(words, ((), value))

    def test_many_states_in_all_methods(self):
        part = Part.of_words((*(("a", *word) for word in plain_words("ab", 4)[-16:]), ("b",) * 6), (("a", "b", "b"),))
        self.assertGreater(len(part), 8)
        self.assertEqual(part & part, part)
        self.assertEqual(part | part, part)
        self.assertEqual(len(part.without(("a", "b"))), len(part))
        self.assertEqual(part.renamed({"a": "b", "b": "a"}).renamed({"a": "b", "b": "a"}), part)
        self.assertEqual(part.after(("b",) * 7), None)
        self.assertEqual([part.offer(state) for state in range(len(part))],
                         [offer_in(part.steps, part.rests, state) for state in range(len(part))])
        with self.assertRaises(InvalidNumber) as caught:
            part.offer(len(part))
        self.assertEqual(caught.exception.value, len(part))
        with self.assertRaises(InvalidPart):
            Part(part.steps, part.rests)


if __name__ == "__main__":
    unittest.main()
