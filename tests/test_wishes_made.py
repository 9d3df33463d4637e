"""Wishes that are made of wishes, and the free one."""

import random
import unittest

from tests.helpers import offer_in, right_set, values_of_every_kind
from tests.wishing import LEFT, RIGHT, does_keep, every_offer, few, part_of, picked_part, reached_pairs, right_wish
from tests.wishing import some_pairs, some_wishes, tables_of, turns, two, wish_of
from whatparts.errors import InvalidOperation, InvalidWish
from whatparts.want.wishes import Wish, free_wish

DONE = ((), True)
MORE = (("a",), False)


def ring_wish(many, goals=()):
    """A wish that follows `a` around so many states, with these goals in each."""
    return Wish.of((((("a",), False),),) * many, tuple({"a": (state + 1) % many} for state in range(many)),
                   (goals,) * many)


def three_parts(source, wish):
    """Tables of parts of which some keep the wish."""
    steps = tuple({name: source.randrange(2) for name in "abc" if source.random() < 0.4} for _ in range(2))
    return [(steps, (0,)), *((picked_part(source, wish) for _ in range(2)) if wish[0] else ())]


class LivelyMore(unittest.TestCase):
    def test_examples(self):
        self.assertEqual(turns().lively().goals[1], (((), {"take": (0,)}),))
        self.assertEqual(turns().lively().without_goals(), turns())

    def test_as_the_keyword(self):
        for offers, steps, _ in some_wishes(30):
            self.assertEqual(Wish(offers, steps).lively(), Wish(offers, steps, lively=True))

    def test_one_more_goal_behind_the_others(self):
        for tables in some_wishes(60, "abcd"):
            offers, steps, goals = tables
            wish = wish_of(tables).lively()
            self.assertTrue(right_wish(wish))
            self.assertEqual([wish.offers, wish.steps], [offers, steps])
            for state, row in enumerate(wish.goals):
                self.assertEqual(row[:-1], goals[state])
                done = tuple(offer for offer in offers[state] if offer[1])
                self.assertEqual(row[-1], (done, {name: (len(goals[goal]),) for name, goal in steps[state].items()}))

    def test_beyond_four_goals(self):
        four = wish_of((few().offers, few().steps, ((((), {"a": (0, 3)}),) * 4,)))
        wish = four.lively().lively()
        self.assertEqual([len(row) for row in wish.goals], [6])
        self.assertEqual(wish.goals[0][4:], (((DONE,), {"a": (4,)}), ((DONE,), {"a": (5,)})))
        self.assertEqual(str(wish), "wish of 1 states, 2 offers, 6 goals")
        self.assertEqual(wish.without_goals(), few().without_goals())
        self.assertEqual((wish & wish).without_goals(), few().without_goals())
        self.assertEqual(wish.renamed({"a": "b"}).renamed({"b": "a"}), wish)
        self.assertEqual(wish.after(("a",)), 0)

    def test_no_states(self):
        self.assertEqual(Wish((), ()).lively(), Wish((), ()))


class WithoutGoals(unittest.TestCase):
    def test_offers_and_steps_stay(self):
        for tables in some_wishes(40, "abcd"):
            wish = wish_of(tables).without_goals()
            self.assertEqual(tables_of(wish), (tables[0], tables[1], tuple(() for _ in tables[0])))
            self.assertEqual(wish, Wish(tables[0], tables[1]))
            self.assertFalse(wish.has_goals)
        self.assertEqual(Wish((), ()).without_goals(), Wish((), ()))


class Renamed(unittest.TestCase):
    def test_words_offers_and_goals(self):
        wish = two().renamed({"l": "r", "r": "l"})
        self.assertEqual(wish, Wish.of(((LEFT, RIGHT),), ({"l": 0, "r": 0},),
                                       ((((RIGHT,), {"l": (0,)}), ((LEFT,), {"r": (1,)})),)))
        wish = turns().renamed({"put": "take", "take": "put"})
        self.assertEqual(wish, Wish((((("take",), True),), ((("put",), False),)), ({"take": 1}, {"put": 0})))

    def test_the_same_parts(self):
        kept = 0
        for part, tables in some_pairs(120, "abc", seed=2):
            wish = wish_of(tables)
            for new in ("cba", "bca", "zyx", "bxa"):
                names = {name: other for name, other in zip("abc", new) if name in wish.actions}
                made = wish.renamed(names)
                self.assertTrue(right_wish(made))
                self.assertEqual(made.actions, tuple(sorted(names.values())))
                if set(part_of(part).actions) <= set(names):
                    renamed = (tuple({names[name]: goal for name, goal in row.items()} for row in part[0]), part[1])
                    kept += does_keep(part, tables)
                    self.assertEqual(does_keep(renamed, tables_of(made)), does_keep(part, tables))
                back = {other: name for name, other in names.items()}
                self.assertEqual(made.renamed(back), wish)
        self.assertGreater(kept, 20)

    def test_states_and_goals_keep_their_places(self):
        for tables in some_wishes(40, "abc", seed=3):
            wish = wish_of(tables)
            names = {name: {"a": "m", "b": "c", "c": "b"}[name] for name in wish.actions}
            made = wish.renamed(names)
            for state in range(len(wish)):
                self.assertEqual(made.steps[state], {names[name]: goal for name, goal in wish.steps[state].items()})
                self.assertEqual(len(made.goals[state]), len(wish.goals[state]))
                for (done, moves), (new_done, new_moves) in zip(wish.goals[state], made.goals[state]):
                    self.assertEqual(new_moves, {names[name]: row for name, row in moves.items()})
                    self.assertEqual(set(new_done), {(tuple(sorted(names[name] for name in had)), rests)
                                                     for had, rests in done})

    def test_no_actions(self):
        self.assertEqual(Wish((), ()).renamed({}), Wish((), ()))
        self.assertEqual(free_wish(()).renamed({}), free_wish(()))

    def test_actions_of_unreached_states_count(self):
        wish = Wish(((MORE,), ((("b",), True),)), ({"a": 0}, {"b": 0}))
        self.assertEqual(wish.renamed({"a": "b", "b": "a"}),
                         Wish((((("b",), False),), ((("a",), True),)), ({"b": 0}, {"a": 0})))
        with self.assertRaises(InvalidOperation):
            wish.renamed({"a": "b"})

    def test_wrong(self):
        for names in ({}, {"put": "a"}, {"take": "a"}, {"put": "a", "take": "a"}, {"put": "take", "take": "take"},
                      {"put": "a", "take": "b", "x": "c"}, {"put": "a", "x": "b"}, {"put": "a", "take": "B"},
                      {"put": "a", "take": ""}, {"put": "a", "take": "abcdefghi"}, {"put": "a", "take": None},
                      {"put": ["a"], "take": "b"}, {"put": {}, "take": "b"}, {"put": "a", None: "b"},
                      (("put", "a"), ("take", "b")), [("put", "a"), ("take", "b")], ("put", "take")):
            with self.assertRaises(InvalidOperation, msg=names):
                turns().renamed(names)
        for value in values_of_every_kind():
            with self.assertRaises(InvalidOperation, msg=value):
                turns().renamed(value)
            if not (isinstance(value, dict) and not value):
                with self.assertRaises(InvalidOperation, msg=value):
                    Wish((), ()).renamed(value)
            if value not in ("a", "put", "get", "abcdefgh"):
                with self.assertRaises(InvalidOperation, msg=value):
                    few().renamed({"a": value})


class Both(unittest.TestCase):
    def test_kept_by_the_parts_that_keep_both(self):
        source = random.Random(4)
        counts = {}
        for most in (0, 2, 4):
            wishes = some_wishes(150, "abc", seed=most + 5, most_goals=most)
            for one, other in zip(wishes, wishes[1:]):
                made = wish_of(one) & wish_of(other)
                self.assertTrue(right_wish(made))
                tables = tables_of(made)
                for part in three_parts(source, one) + three_parts(source, other) + three_parts(source, tables):
                    keeps = does_keep(part, one), does_keep(part, other)
                    counts[keeps] = counts.get(keeps, 0) + 1
                    self.assertEqual(does_keep(part, tables), all(keeps))
        self.assertGreater(counts[True, True], 40)
        self.assertGreater(min(counts[True, False], counts[False, True]), 40)

    def test_goals_that_move_in_both(self):
        # The goals of both are at work at once: each part that keeps one wish alone is told.
        rest = Wish.of((tuple(every_offer("ab")),), ({"a": 0, "b": 0},),
                       (((tuple(offer for offer in every_offer("ab") if offer[1]), {"a": (0,), "b": (0,)}),),))
        can_a = Wish.of((tuple(every_offer("ab")),), ({"a": 0, "b": 0},),
                        (((tuple(offer for offer in every_offer("ab") if "a" in offer[0]), {"b": (0,)}),),))
        for first, second in ((rest, can_a), (can_a, rest)):
            tables = tables_of(first & second)
            self.assertTrue(does_keep((({"b": 1}, {"a": 0}), (0,)), tables))
            self.assertFalse(does_keep((({"b": 1}, {"a": 0}), ()), tables))
            self.assertFalse(does_keep((({"b": 1}, {"b": 0}), (0,)), tables))
            self.assertFalse(does_keep((({"b": 0}, {"a": 0}), (1,)), tables))

    def test_with_itself_and_with_the_free_wish(self):
        source = random.Random(6)
        for tables in some_wishes(60, "abc", seed=9):
            wish = wish_of(tables)
            for made in (wish & wish, wish & free_wish(("a", "b", "c")), free_wish(("a", "b", "c")) & wish):
                for part in three_parts(source, tables):
                    self.assertEqual(does_keep(part, tables_of(made)), does_keep(part, tables))

    def test_bounds_of_what_is_returned(self):
        wishes = some_wishes(80, "abc", seed=10)
        for one, other in zip(wishes, wishes[1:]):
            made = wish_of(one) & wish_of(other)
            self.assertLessEqual(len(made), len(one[0]) * len(other[0]))
            most = max(map(len, one[2])) + max(map(len, other[2]))
            self.assertLessEqual(max((len(row) for row in made.goals), default=0), most)
            if not any(one[2]) and not any(other[2]):
                self.assertFalse(made.has_goals)

    def test_more_than_eight_states(self):
        made = ring_wish(8) & ring_wish(7)
        self.assertEqual(len(made), 56)
        self.assertEqual(made.after(("a",) * 56), made.after(()))
        self.assertEqual(len(made & ring_wish(3)), 168)
        self.assertTrue(does_keep((({"a": 0},), ()), tables_of(made & ring_wish(3))))
        self.assertFalse(does_keep((({"a": 0},), (0,)), tables_of(made & ring_wish(3))))
        wide = ring_wish(8) & Wish(*tables_of(ring_wish(8))[:2])
        self.assertLessEqual(len(wide), 64)

    def test_more_than_four_goals(self):
        goal = ((), {"a": (0,)})
        made = ring_wish(3, (goal,) * 4) & ring_wish(2, (goal,) * 3)
        self.assertEqual(len(made & made), 6)
        self.assertLessEqual({len(row) for row in made.goals}, set(range(8)))
        self.assertFalse(does_keep((({"a": 0},), ()), tables_of(made)))

    def test_more_than_four_actions(self):
        one = Wish((tuple(every_offer("abcd")),), ({name: 0 for name in "abcd"},))
        other = Wish((tuple(every_offer("cdef")),), ({name: 0 for name in "cdef"},))
        tables = tables_of(one & other)
        self.assertTrue(does_keep((({"c": 0, "d": 0},), (0,)), tables))
        self.assertFalse(does_keep((({"a": 0},), (0,)), tables))
        self.assertFalse(does_keep((({"f": 0},), (0,)), tables))

    def test_no_states(self):
        for one, other in ((Wish((), ()), turns()), (turns(), Wish((), ())), (Wish((), ()), Wish((), ()))):
            self.assertFalse(any(does_keep(part, tables_of(one & other)) for part in
                                 ((({},), ()), (({},), (0,)), (({"put": 1}, {"take": 0}), (0,)))))
            self.assertEqual(len(one & other), 0)

    def test_no_common_offer(self):
        made = Wish(((MORE,),), ({"a": 0},)) & Wish(((DONE,),), ({},))
        self.assertTrue(right_wish(made))
        self.assertFalse(any(does_keep(part, tables_of(made)) for part in
                             ((({},), (0,)), (({"a": 0},), ()), (({"a": 0},), (0,)), (({},), ()))))

    def test_wrong(self):
        for value in values_of_every_kind():
            if not isinstance(value, Wish):
                for wish in (turns(), Wish((), ())):
                    with self.assertRaises(InvalidWish, msg=value):
                        wish & value


class Free(unittest.TestCase):
    def test_all_offers(self):
        self.assertEqual(free_wish(()).offers, ((((), False), ((), True)),))
        for actions in ((), ("a",), ("get", "put"), ("a", "b", "c", "d")):
            wish = free_wish(actions)
            self.assertEqual(tables_of(wish), ((tuple(every_offer(actions)),), ({name: 0 for name in actions},), ((),)))
            self.assertEqual([wish.has_goals, wish.actions, len(wish)], [False, actions, 1])

    def test_kept_by_all_parts_with_these_actions(self):
        for part, _ in some_pairs(30, "abc", seed=11):
            self.assertTrue(does_keep(part, tables_of(free_wish(("a", "b", "c", "d")))))
            names = {offer for p, _ in reached_pairs(part, tables_of(free_wish(("a", "b", "c"))))
                     for offer in offer_in(*part, p)[0]}
            self.assertEqual(does_keep(part, tables_of(free_wish(("a", "b")))), names <= {"a", "b"})

    def test_wrong(self):
        for value in values_of_every_kind():
            if not right_set(value) or len(value) > 4:
                with self.assertRaises(InvalidOperation, msg=value):
                    free_wish(value)
        with self.assertRaises(InvalidOperation):
            free_wish(("a", "b", "c", "d", "e"))


if __name__ == "__main__":
    unittest.main()
