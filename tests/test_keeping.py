"""Whether parts keep wishes, the papers about it, and the ways to goals."""

import itertools
import random
import unittest

from tests.helpers import lead, offer_in, plain_words, right_word, ring, turn, values_of_every_kind
from tests.wishing import all_allowed, does_keep, few, part_of, reached_pairs, right_paper, served_spots, some_pairs
from tests.wishing import table_of, tables_of, turns, two, wish_of
from whatparts.core.parts import Part
from whatparts.errors import InvalidOperation, InvalidPart, InvalidWish
from whatparts.want import keeping
from whatparts.want.keeping import is_keep_paper, keep_paper, keeps, ways
from whatparts.want.wishes import Wish, free_wish

DONE = ((), True)
MORE = (("a",), False)
EMPTY = Wish((), ())


def whole():
    """The part WHOLE of the document."""
    return Part(({"put": 1}, {"take": 0}), (0,))


def some():
    return Part(({"a": 1}, {}), (1,))


def ever():
    return Part(({"a": 0},))


def short_pairs():
    """Tables so small that words of at most six actions tell all."""
    return [(part, wish) for part, wish in some_pairs(900, "ab", seed=21, most_goals=2)
            if len(reached_pairs(part, wish)) * max(map(len, [*wish[2], ()])) <= 6 and len(reached_pairs(part, wish)) <= 4]


def moved_along(wish, state, goal, word):
    """The state of a wish and the goals of it to which a goal moves along a word."""
    goals = {goal}
    for name in word:
        if name not in wish[1][state]:
            return state, set()
        goals = {after for at in goals for after in wish[2][state][at][1].get(name, ())}
        state = wish[1][state][name]
    return state, goals


def plain_way(part, wish, word, goal, most=6):
    """The first word that serves a goal behind a word, by trying all words."""
    for more in plain_words(sorted({name for row in part[0] for name in row}), most):
        p = lead(part[0], word + more)
        if p is not None:
            state, goals = moved_along(wish, lead(wish[1], word), goal, more)
            if any(offer_in(*part, p) in wish[2][state][at][0] for at in goals):
                return more
    return None


def word_keeps(part, wish):
    """Whether a small part keeps a small wish, word by word."""
    if not wish[0]:
        return False
    for word in plain_words(sorted({name for row in part[0] for name in row}), 4):
        p, q = lead(part[0], word), lead(wish[1], word)
        if p is not None:
            if q is None or offer_in(*part, p) not in wish[0][q]:
                return False
            if any(plain_way(part, wish, word, goal) is None for goal in range(len(wish[2][q]))):
                return False
    return True


class Interface(unittest.TestCase):
    def test_functions_stand_in_the_module(self):
        for function in (keeps, keep_paper, is_keep_paper, ways):
            self.assertEqual(function.__module__, "whatparts.want.keeping")
            self.assertIs(vars(keeping)[function.__name__], function)


class Keeps(unittest.TestCase):
    def test_examples(self):
        self.assertIs(keeps(whole(), turns()), True)
        self.assertIs(keeps(turn(), turns()), False)
        self.assertIs(keeps(some(), few()), True)
        self.assertIs(keeps(ever(), few()), False)

    def test_against_the_pairs(self):
        counts = {True: 0, False: 0}
        for part, wish in some_pairs(300, "abc", seed=22):
            kept = does_keep(part, wish)
            counts[kept] += 1
            self.assertIs(keeps(part_of(part), wish_of(wish)), kept, (part, wish))
        self.assertGreater(min(counts.values()), 100)

    def test_against_all_words(self):
        counts = {True: 0, False: 0}
        for part, wish in short_pairs():
            kept = word_keeps(part, wish)
            counts[kept] += 1
            self.assertIs(keeps(part_of(part), wish_of(wish)), kept, (part, wish))
        self.assertGreater(min(counts.values()), 60)

    def test_no_part_keeps_a_wish_without_states(self):
        for part in (Part(({},)), Part(({},), (0,)), turn(), ever()):
            self.assertIs(keeps(part, EMPTY), False)
            self.assertEqual(keep_paper(part, EMPTY), ("offer", ()))

    def test_no_part_keeps_a_wish_without_offers(self):
        for part in (Part(({},)), Part(({},), (0,)), turn(), ever()):
            self.assertIs(keeps(part, Wish(((),), ({},))), False)

    def test_all_parts_keep_the_free_wish(self):
        for part, _ in some_pairs(60, "abc", seed=23):
            self.assertTrue(keeps(part_of(part), free_wish(("a", "b", "c"))))

    def test_unreached_states_have_no_meaning(self):
        self.assertTrue(keeps(Part(({}, {"never": 0}), (0,)), few()))
        wish = Wish.of(((DONE,), ()), ({}, {}), ((), (((), {}),)))
        self.assertTrue(keeps(Part(({},), (0,)), wish))

    def test_rests_count(self):
        self.assertTrue(keeps(Part(({},), (0,)), few()))
        self.assertFalse(keeps(Part(({},)), few()))
        self.assertFalse(keeps(Part(({"a": 1}, {}), (0, 1)), few()))

    def test_a_goal_that_is_only_circled(self):
        wish = Wish.of(((MORE,), (MORE,)), ({"a": 1}, {"a": 0}), ((((), {"a": (0,)}),), (((), {"a": (0,)}),)))
        self.assertFalse(keeps(ring(4, ()), wish))
        self.assertTrue(keeps(ring(4, ()), wish.without_goals()))

    def test_one_of_several_goals_is_enough(self):
        wish = Wish.of(((MORE, (("a",), True)),), ({"a": 0},), ((((), {"a": (1, 2)}), ((), {"a": (2,)}),
                                                                ((((("a",), True)),), {"a": (2,)})),))
        self.assertTrue(keeps(ring(8), wish))
        self.assertFalse(keeps(ring(8, ()), wish))

    def test_goals_by_choice(self):
        # Both goals are served where l and r come in turn, neither where the part does one of them alone.
        self.assertTrue(keeps(Part(({"l": 1}, {"r": 0})), two()))
        self.assertFalse(keeps(Part(({"l": 0},)), two()))
        self.assertFalse(keeps(Part(({"l": 1}, {"r": 1})), two()))

    def test_alike_parts(self):
        for part, wish in some_pairs(150, "abc", seed=24):
            self.assertEqual(keeps(part_of(part), wish_of(wish)), keeps(part_of(part).least(), wish_of(wish)))

    def test_more_states_and_goals_than_can_be_passed(self):
        part = ring(7) & ring(8)
        wish = Wish(((MORE, (("a",), True)),), ({"a": 0},), lively=True)
        for _ in range(6):
            wish = wish.lively()
        self.assertTrue(keeps(part, wish))
        self.assertEqual(keep_paper(part, wish)[1][1, 0], (55,) * 7)
        self.assertFalse(keeps(part.without(("a",)), wish))
        eight, seven = (Wish(((MORE,),) * many, tuple({"a": (state + 1) % many} for state in range(many)))
                        for many in (8, 7))
        self.assertEqual(len(eight & seven), 56)
        self.assertFalse(keeps(part, eight & seven))
        self.assertEqual(keep_paper(ring(5, (4,)), eight & seven), ("offer", ("a",) * 4))
        self.assertTrue(keeps(ring(5, ()), eight & seven))
        self.assertEqual(len(keep_paper(ring(5, ()), eight & seven)[1]), 280)


class Papers(unittest.TestCase):
    def test_examples(self):
        self.assertEqual(keep_paper(whole(), turns()), ("kept", {(0, 0): (), (1, 1): ()}))
        self.assertIs(is_keep_paper(turn(), turns(), ("offer", ("put",))), True)
        self.assertIs(is_keep_paper(some(), few(), ("kept", {(0, 0): (1,), (1, 0): (0,)})), True)
        self.assertEqual(keep_paper(ever(), few())[0], "goal")
        self.assertIs(is_keep_paper(ever(), few(), ("goal", ("a", "a"), 0)), True)

    def test_right_ones_are_returned_and_accepted(self):
        counts = {}
        for part, wish in some_pairs(300, "abc", seed=25):
            paper = keep_paper(part_of(part), wish_of(wish))
            counts[paper[0]] = counts.get(paper[0], 0) + 1
            self.assertTrue(right_paper(part, wish, paper), (part, wish, paper))
            self.assertIs(is_keep_paper(part_of(part), wish_of(wish), paper), True)
            self.assertEqual(paper[0] == "kept", does_keep(part, wish))
            if paper[0] == "kept":
                self.assertEqual(list(paper[1]), sorted(paper[1]))
        self.assertGreater(min(counts[kind] for kind in ("kept", "offer", "goal")), 100)

    def test_words_and_goals_are_judged(self):
        found = {True: 0, False: 0}
        for part, wish in some_pairs(120, "abc", seed=26):
            one, other = part_of(part), wish_of(wish)
            for word in plain_words("abc", 3):
                papers = [("offer", word)] + [("goal", word, goal) for goal in range(-1, 5)]
                for paper in papers:
                    right = right_paper(part, wish, paper)
                    found[right] += 1
                    self.assertIs(is_keep_paper(one, other, paper), right, (part, wish, paper))
        self.assertGreater(found[True], 300)

    def test_goals_count_only_where_all_offers_are_allowed(self):
        wish = Wish.of(((MORE,),), ({"a": 0},), ((((), {}),),))
        self.assertTrue(is_keep_paper(ever(), wish, ("goal", (), 0)))
        part = Part(({"a": 1}, {"a": 1, "b": 0}))
        self.assertFalse(is_keep_paper(part, wish, ("goal", (), 0)))
        self.assertTrue(is_keep_paper(part, wish, ("offer", ("a",))))
        self.assertEqual(keep_paper(part, wish)[0], "offer")

    def test_offers_behind_words_that_the_wish_does_not_follow(self):
        part = Part(({"a": 0, "b": 0},))
        self.assertTrue(is_keep_paper(part, few(), ("offer", ())))
        self.assertTrue(is_keep_paper(part, few(), ("offer", ("a", "a"))))
        self.assertFalse(is_keep_paper(part, few(), ("offer", ("b",))))
        self.assertFalse(is_keep_paper(part, few(), ("offer", ("c",))))

    def test_tables_of_others(self):
        numbers = {(0, 0): (5,), (1, 0): (0,)}
        self.assertTrue(is_keep_paper(some(), few(), ("kept", numbers)))
        self.assertTrue(is_keep_paper(some(), few(), ("kept", {(1, 0): (0,), (0, 0): (10 ** 39,)})))
        for wrong in ({(0, 0): (0,), (1, 0): (0,)}, {(0, 0): (1,), (1, 0): (1,)}, {(0, 0): (1,), (1, 0): (2,)},
                      {(0, 0): (1,)}, {(1, 0): (0,)}, {}, {(0, 0): (-1,), (1, 0): (0,)}, {(0, 0): (True,), (1, 0): (0,)},
                      {(0, 0): (1,), (1, 0): (False,)}, {(0, 0): (1, 1), (1, 0): (0,)}, {(0, 0): (), (1, 0): (0,)},
                      {(0, 0): [1], (1, 0): (0,)}, {(0, 0): 1, (1, 0): 0}, {(0, 0): (1,), (1, 0): None},
                      {(0, 0): (1,), (1, 0): ()}, {(0, 0): (1,), (1, 0): ("0",)}, {(0, 0): (None,), (1, 0): (0,)},
                      {(False, 0): (1,), (1, 0): (0,)}, {(0, 0): (1,), (True, 0): (0,)},
                      {(0, False): (1,), (1, 0): (0,)}, {(0, 0): (1,), (1, 0): (0,), (2, 0): (0,)},
                      {(0, 0): (1,), (1, 0): (0,), (0, 1): (0,)}, {(0, 0): (1,), (1, 0): (0,), (-1, 0): (0,)},
                      {(0, 0): (1,), (1, 0): (0,), (1, -1): (0,)}, {(0, 0): (1,), (1, 0): (0,), (1, 0, 0): (0,)},
                      {(0, 0): (1,), (1, 0): (0,), (1,): (0,)}, {(0, 0): (1,), (1, 0): (0,), None: (0,)},
                      {(0, 0): (1,), (1, 0): (0,), 0: (0,)}, {(0, 0): (1,), (1, 0): (0,), ("0", 0): (0,)},
                      {(0, 0): (1,), (1, 0): (0,), (None, None): ()}, (((0, 0), (1,)), ((1, 0), (0,))),
                      [((0, 0), (1,)), ((1, 0), (0,))], None, 0, True, "", "kept", some()):
            self.assertIs(is_keep_paper(some(), few(), ("kept", wrong)), False, wrong)

    def test_tables_under_another_word(self):
        right = {(0, 0): (1,), (1, 0): (0,)}
        self.assertTrue(is_keep_paper(some(), few(), ("kept", right)))
        for paper in (("offer", right), ("goal", right), ("Kept", right), ("", right), (None, right), (right, right),
                      (("kept",), right), ("kept", right, 0), ("kept", right, right), ("kept", (), 0), ("kept",),
                      (right,), (right, "kept"), ["kept", right], {"kept": right}, right):
            self.assertIs(is_keep_paper(some(), few(), paper), False, paper)

    def test_tables_with_more_pairs(self):
        part = Part(({"a": 1}, {}, {"a": 2}, {"a": 1}, {"b": 0}), (1,))
        right = {(0, 0): (1,), (1, 0): (0,)}
        self.assertTrue(is_keep_paper(part, few(), ("kept", right)))
        self.assertTrue(is_keep_paper(part, few(), ("kept", {**right, (3, 0): (1,)})))
        self.assertFalse(is_keep_paper(part, few(), ("kept", {**right, (3, 0): (0,)})))
        for number in (0, 1, 2):
            self.assertFalse(is_keep_paper(part, few(), ("kept", {**right, (2, 0): (number,)})))
        self.assertFalse(is_keep_paper(part, few(), ("kept", {**right, (4, 0): (0,)})))
        self.assertFalse(is_keep_paper(part, few(), ("kept", {(0, 0): (1,), (1, 0): (0,), (3, 0): ()})))

    def test_tables_that_are_changed(self):
        source = random.Random(27)
        found = {True: 0, False: 0}
        for part, wish in some_pairs(250, "ab", seed=28):
            paper = keep_paper(part_of(part), wish_of(wish))
            if paper[0] != "kept":
                continue
            for _ in range(12):
                table = {pair: list(row) for pair, row in paper[1].items()}
                for row in table.values():
                    row[:] = [max(0, number + source.choice((0, 0, 0, 1, -1))) for number in row]
                if source.random() < 0.2:
                    del table[source.choice(list(table))]
                if source.random() < 0.3:
                    p, q = source.randrange(len(part[0])), source.randrange(len(wish[0]))
                    table[p, q] = [source.choice((0, 1, 2)) for _ in wish[2][q]]
                changed = ("kept", {pair: tuple(row) for pair, row in table.items()})
                right = right_paper(part, wish, changed)
                found[right] += 1
                self.assertIs(is_keep_paper(part_of(part), wish_of(wish), changed), right, (part, wish, changed))
        self.assertGreater(min(found.values()), 200)

    def test_wish_without_states(self):
        for value in (("offer", ()), ("offer", ("a",)), ("offer", []), ("offer", None), ("offer",), ("kept", {}),
                      ("kept", {(0, 0): ()}), ("goal", (), 0), ("offer", (), 0), ["offer", ()], (), None, "offer"):
            self.assertIs(is_keep_paper(ever(), EMPTY, value), isinstance(value, tuple) and value == ("offer", ()), value)

    def test_values_of_every_kind(self):
        for part, wish in ((some(), few()), (ever(), few()), (turn(), turns()), (turn(), EMPTY)):
            tables = table_of(part), tables_of(wish)
            for value in values_of_every_kind():
                self.assertIs(is_keep_paper(part, wish, value), False, value)
                for paper in ((value, ()), (value, {}), (value, (), 0), ("offer", value), ("goal", value, 0),
                              ("kept", value), ("kept", {(0, 0): value}), ("goal", (), value), ("offer", value, 0),
                              ["offer", value], ("offer", (value,)), ("goal", (value,), 0), ("goal", value), (value,)):
                    self.assertIs(is_keep_paper(part, wish, paper), right_paper(*tables, paper), paper)

    def test_never_of_both_forms(self):
        for part, wish in some_pairs(60, "ab", seed=29):
            one, other = part_of(part), wish_of(wish)
            kept = keeps(one, other)
            wrong = [("offer", word) for word in plain_words("ab", 3)]
            wrong += [("goal", word, goal) for word in plain_words("ab", 3) for goal in range(4)]
            if kept:
                self.assertFalse(any(is_keep_paper(one, other, paper) for paper in wrong))
            else:
                every = {pair: tuple(0 for _ in wish[2][pair[1]]) for pair in
                         itertools.product(range(len(part[0])), range(len(wish[0])))}
                self.assertFalse(is_keep_paper(one, other, ("kept", every)))


class Ways(unittest.TestCase):
    def test_examples(self):
        self.assertEqual(ways(some(), few(), ()), (("a",),))
        self.assertEqual(ways(some(), few(), ("a",)), ((),))
        self.assertEqual(ways(ever(), few(), ("a", "a")), (None,))
        self.assertEqual(ways(whole(), turns(), ("put",)), ())

    def test_against_all_words(self):
        lengths = set()
        for part, wish in short_pairs():
            one, other = part_of(part), wish_of(wish)
            for word in plain_words("ab", 3):
                if lead(part[0], word) is None or not wish[0] or lead(wish[1], word) is None:
                    continue
                found = ways(one, other, word)
                expected = tuple(plain_way(part, wish, word, goal) for goal in range(len(wish[2][lead(wish[1], word)])))
                self.assertEqual(found, expected, (part, wish, word))
                lengths |= {None if way is None else len(way) for way in found}
        self.assertLessEqual({None, 0, 1, 2}, lengths)

    def test_served_goals_have_ways(self):
        for part, wish in some_pairs(100, "abc", seed=30):
            served = served_spots(part, wish)
            for word in plain_words("abc", 2):
                p, q = lead(part[0], word), lead(wish[1], word)
                if p is None or q is None:
                    continue
                found = ways(part_of(part), wish_of(wish), word)
                self.assertEqual([way is not None for way in found],
                                 [(p, q, goal) in served for goal in range(len(wish[2][q]))])
                for goal, way in enumerate(found):
                    if way is not None:
                        state, goals = moved_along(wish, q, goal, way)
                        offer = offer_in(*part, lead(part[0], word + way))
                        self.assertTrue(any(offer in wish[2][state][at][0] for at in goals))

    def test_first_of_equally_long_words(self):
        rests, goes = (("a", "b"), True), (("a", "b"), False)
        goals = ((((), {"a": (1, 2), "b": (1, 2)}), ((), {"b": (3,)}), ((), {"a": (3,)}), ((rests,), {})),)
        wish = Wish.of(((goes, rests),), ({"a": 0, "b": 0},), goals)
        part = Part(({"a": 1, "b": 1}, {"a": 2, "b": 2}, {"a": 2, "b": 2}), (2,))
        self.assertEqual(ways(part, wish, ()), (("a", "a"), None, None, None))
        self.assertEqual(ways(part, wish, ("b",)), (("a", "a"), ("b",), ("a",), None))
        self.assertEqual(ways(part, wish, ("b", "b")), (("a", "a"), ("b",), ("a",), ()))

    def test_several_goals_at_once_on_the_way(self):
        # Both a and b lead on; behind a, only one of the two goals can go on by a.
        row = ((("a", "b"), False), (("a", "b"), True))
        offers = (row, row, row, row)
        steps = ({"a": 1, "b": 1}, {"a": 2, "b": 2}, {"a": 3, "b": 3}, {"a": 3, "b": 3})
        goals = ((((), {"a": (0, 1), "b": (0, 1)}),), (((), {"b": (0,)}), ((), {"a": (1,)})),
                 (((), {"a": (0,)}), ((), {"b": (0,)})), (((row[1],), {}),))
        wish = Wish.of(offers, steps, goals)
        part = Part(({"a": 1, "b": 1}, {"a": 2, "b": 2}, {"a": 3, "b": 3}, {"a": 3, "b": 3}), (3,))
        self.assertEqual(ways(part, wish, ()), (("a", "a", "b"),))
        self.assertEqual(ways(part, wish, ("b",)), (("b", "a"), ("a", "b")))

    def test_where_offers_are_not_allowed(self):
        part = Part(({"a": 1, "b": 0}, {"a": 0}), (1,))
        rests = (("a",), True)
        wish = Wish.of(((MORE, rests),), ({"a": 0},), ((((rests,), {"a": (0,)}),),))
        self.assertEqual(ways(part, wish, ()), (("a",),))
        self.assertEqual(ways(part, wish, ("a", "a")), (("a",),))
        with self.assertRaises(InvalidOperation):
            ways(part, wish, ("b",))

    def test_long_ways(self):
        wish = Wish(((MORE, (("a",), True)),), ({"a": 0},), lively=True)
        part = ring(7) & ring(8)
        self.assertEqual(ways(part, wish, ()), ((),))
        self.assertEqual(ways(part, wish, ("a",)), (("a",) * 55,))
        self.assertEqual(ways(part, wish.lively().lively().lively().lively(), ("a",) * 57), (("a",) * 55,) * 5)

    def test_wrong_words(self):
        for value in values_of_every_kind():
            if not (right_word(value) and set(value) <= {"a"} and len(value) <= 1):
                with self.assertRaises(InvalidOperation, msg=value):
                    ways(some(), few(), value)
            with self.assertRaises(InvalidOperation, msg=value):
                ways(some(), EMPTY, value)
        for word in (("a", "a"), ("b",), ["a"], "a"):
            with self.assertRaises(InvalidOperation, msg=word):
                ways(some(), few(), word)
        with self.assertRaises(InvalidOperation):
            ways(turn(), turns(), ("put", "get"))
        with self.assertRaises(InvalidOperation):
            ways(turn(), turns(), ("put", "take"))


class Wrong(unittest.TestCase):
    def test_first_error(self):
        for function, more in ((keeps, ()), (keep_paper, ()), (is_keep_paper, (("offer", ()),)), (ways, ((),)),
                               (ways, (None,)), (is_keep_paper, (None,))):
            for value in values_of_every_kind():
                if not isinstance(value, Part):
                    for wish in (few(), EMPTY, None, value):
                        with self.assertRaises(InvalidPart, msg=value):
                            function(value, wish, *more)
                if not isinstance(value, Wish):
                    with self.assertRaises(InvalidWish, msg=value):
                        function(some(), value, *more)

    def test_nothing_is_changed(self):
        part, wish = Part(({"l": 1}, {"r": 0})), two()
        paper = keep_paper(part, wish)
        kept = {pair: row for pair, row in paper[1].items()}
        self.assertTrue(keeps(part, wish))
        self.assertTrue(is_keep_paper(part, wish, paper))
        ways(part, wish, ("l",))
        self.assertEqual([table_of(part), tables_of(wish)], [(({"l": 1}, {"r": 0}), ()), tables_of(two())])
        self.assertEqual(paper, ("kept", kept))
        paper[1].clear()
        self.assertEqual(keep_paper(part, wish), ("kept", kept))


class Judges(unittest.TestCase):
    def test_the_plain_ways_agree(self):
        for part, wish in short_pairs()[::3]:
            self.assertEqual(word_keeps(part, wish), does_keep(part, wish))
            if all_allowed(part, wish):
                for p, q, goal in sorted(served_spots(part, wish)):
                    self.assertLess(goal, len(wish[2][q]))


if __name__ == "__main__":
    unittest.main()
