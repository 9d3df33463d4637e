"""Wishes: how they are made, what they tell, and what they do not take."""

import inspect
import unittest

from tests.helpers import are_same, lead, right_offer, right_word, turn, values_of_every_kind
from tests.wishing import LEFT, RIGHT, every_offer, few, right_wish, some_wishes, tables_of, turns, two, wish_of
from whatparts.errors import InvalidOperation, InvalidWish
from whatparts.want import wishes
from whatparts.want.wishes import MAX_GOALS, Wish, free_wish

METHODS = ("of", "after", "allows", "lively", "without_goals", "renamed", "__and__", "__len__", "__eq__", "__str__")
PROPERTIES = ("offers", "steps", "goals", "actions", "has_goals", "is_empty")
DONE = ((), True)
MORE = (("a",), False)
# A wish whose state 2 is reached by no word, and alone has an action c and a goal.
LONELY = (((DONE, MORE), (((), False), (("b",), True)), (((("c",)), False),)),
          ({"a": 1}, {"b": 0}, {"c": 2}), ((), (), (((), {"c": (0,)}),)))


def many_states(many):
    return ((DONE, MORE),) * many, tuple({"a": min(state + 1, many - 1)} for state in range(many))


def with_goals(*goals):
    """A wish whose state 0 has these goals and steps to 1, where three goals are."""
    three = (((DONE,), {}), ((), {}), ((), {}))
    return Wish.of(((DONE, MORE), (DONE, MORE)), ({"a": 1}, {"a": 0}), (goals, three))


class Interface(unittest.TestCase):
    def test_constant(self):
        self.assertEqual(MAX_GOALS, 4)

    def test_all_stands_where_it_is_listed(self):
        self.assertIs(vars(wishes)["Wish"], Wish)
        self.assertEqual([Wish.__module__, free_wish.__module__], ["whatparts.want.wishes"] * 2)
        for name in (*METHODS, *PROPERTIES):
            self.assertIn(name, vars(Wish))

    def test_lively_is_a_keyword(self):
        kinds = {name: given.kind for name, given in inspect.signature(Wish).parameters.items()}
        self.assertEqual(kinds["lively"], inspect.Parameter.KEYWORD_ONLY)
        self.assertEqual(list(kinds), ["offers", "steps", "lively"])


class Made(unittest.TestCase):
    def test_properties(self):
        wish = turns()
        self.assertEqual(wish.offers, (((("put",), True),), ((("take",), False),)))
        self.assertEqual(wish.steps, ({"put": 1}, {"take": 0}))
        self.assertEqual(wish.goals, ((), ()))
        self.assertEqual(wish.actions, ("put", "take"))
        self.assertIs(wish.has_goals, False)
        self.assertIs(wish.is_empty, False)
        self.assertEqual(len(wish), 2)
        self.assertEqual(str(wish), "wish of 2 states, 2 offers, 0 goals")

    def test_no_states(self):
        for wish in (Wish((), ()), Wish((), (), lively=True), Wish.of((), (), ())):
            self.assertEqual(tables_of(wish), ((), (), ()))
            self.assertEqual([wish.actions, wish.has_goals, wish.is_empty, len(wish)], [(), False, True, 0])
            self.assertEqual(str(wish), "wish of 0 states, 0 offers, 0 goals")
            self.assertEqual(wish, Wish((), ()))

    def test_a_state_without_offers(self):
        wish = Wish(((),), ({},))
        self.assertEqual([wish.offers, wish.steps, wish.is_empty, wish.actions], [((),), ({},), False, ()])
        self.assertNotEqual(wish, Wish((), ()))
        self.assertEqual(Wish(((),), ({},), lively=True).goals, ((((), {}),),))

    def test_lively(self):
        self.assertEqual(few().goals, ((((DONE,), {"a": (0,)}),),))
        self.assertIs(few().has_goals, True)
        self.assertEqual(Wish(turns().offers, turns().steps, lively=False), turns())
        wish = Wish(LONELY[0], LONELY[1], lively=True)
        self.assertEqual(wish.goals, ((((DONE,), {"a": (0,)}),), ((((("b",), True),), {"b": (0,)}),), (((), {"c": (0,)}),)))

    def test_with_goals(self):
        wish = two()
        self.assertEqual(wish.goals, ((((LEFT,), {"r": (0,)}), ((RIGHT,), {"l": (1,)})),))
        self.assertEqual([wish.has_goals, wish.actions, len(wish)], [True, ("l", "r"), 1])
        self.assertEqual(str(wish), "wish of 1 states, 2 offers, 2 goals")

    def test_unreached_states_count(self):
        wish = wish_of(LONELY)
        self.assertEqual([wish.actions, wish.has_goals, len(wish)], [("a", "b", "c"), True, 3])
        self.assertEqual(str(wish), "wish of 3 states, 5 offers, 1 goals")

    def test_kinds_and_order_of_what_is_told(self):
        for offers, steps, goals in some_wishes(60, "abcd"):
            turned = tuple(dict(reversed(row.items())) for row in steps)
            moved = tuple(tuple((done, dict(reversed(moves.items()))) for done, moves in row) for row in goals)
            wish = Wish.of(offers, turned, moved)
            self.assertEqual(tables_of(wish), (offers, steps, goals))
            self.assertTrue(right_wish(wish))
            self.assertEqual(wish.actions, tuple(sorted({name for row in steps for name in row})))
            self.assertIs(wish.has_goals, any(goals))
            self.assertEqual(str(wish), f"wish of {len(offers)} states, {sum(map(len, offers))} offers, "
                                        f"{sum(map(len, goals))} goals")
            self.assertTrue(right_wish(Wish(offers, turned, lively=True)))

    def test_of_without_goals(self):
        for offers, steps, goals in some_wishes(20, "abc"):
            self.assertEqual(Wish.of(offers, steps, tuple(() for _ in offers)), Wish(offers, steps))


class Offers(unittest.TestCase):
    def test_at_the_bounds(self):
        offers, steps = many_states(8)
        self.assertEqual(len(Wish(offers, steps)), 8)
        every = tuple(every_offer("abcd"))
        wish = Wish((every,), ({name: 0 for name in "abcd"},))
        self.assertEqual([wish.offers, wish.actions], [(every,), ("a", "b", "c", "d")])
        wish = Wish((((("a", "b"), False),), ((("c",), True), (("d",), False))), ({"a": 1, "b": 0}, {"c": 0, "d": 1}))
        self.assertEqual(wish.actions, ("a", "b", "c", "d"))
        self.assertEqual(Wish((((("abcdefgh",), True),),), ({"abcdefgh": 0},)).actions, ("abcdefgh",))

    def test_beyond_the_bounds(self):
        with self.assertRaises(InvalidWish):
            Wish(*many_states(9))
        with self.assertRaises(InvalidWish):
            Wish((((("a", "b", "c", "d", "e"), False),),), ({name: 0 for name in "abcde"},))
        with self.assertRaises(InvalidWish):
            Wish((((("a", "b", "c"), False),), ((("d", "e"), True),)), ({"a": 0, "b": 0, "c": 0}, {"d": 0, "e": 0}))
        with self.assertRaises(InvalidWish):
            Wish((tuple(((name,), False) for name in "abcde"),), ({name: 0 for name in "abcde"},))

    def test_wrong(self):
        for row in ([DONE, MORE], (MORE, DONE), (DONE, DONE), (DONE, MORE, MORE), (DONE, (("a",), 0)),
                    (DONE, (["a"], False)), (DONE, ("a", False)), (DONE, [("a",), False]), (DONE, (("a",),)),
                    (DONE, (("a",), False, True)), (DONE, (("b", "a"), False)), (DONE, (("a", "a"), False)),
                    (DONE, (("A",), False)), (DONE, (("",), False)), (DONE, (("abcdefghi",), False)), (DONE, None),
                    (DONE, (("a",), None)), (DONE, MORE, 1), {DONE: 0}, {}, [], None, 0, True, "a", "", DONE, MORE):
            actions = [{"a": 0}, {}, {"a": 0, "b": 0}]
            for steps in actions:
                with self.assertRaises(InvalidWish, msg=row):
                    Wish((row,), (steps,))
                with self.assertRaises(InvalidWish, msg=row):
                    Wish.of((row,), (steps,), ((),))
        for offers in ([(DONE, MORE)], {0: (DONE, MORE)}, (DONE, MORE), DONE, None, 0, True, "", "a", [], {}, turns()):
            for steps in (({"a": 0},), (), ({},), ({}, {})):
                with self.assertRaises(InvalidWish, msg=offers):
                    Wish(offers, steps)

    def test_of_every_kind(self):
        for value in values_of_every_kind():
            if not are_same(value, ()):
                with self.assertRaises(InvalidWish, msg=value):
                    Wish(value, ())
                with self.assertRaises(InvalidWish, msg=value):
                    Wish((value,), ({},))
            if not right_offer(value):
                with self.assertRaises(InvalidWish, msg=value):
                    Wish(((value,),), ({},))


class Steps(unittest.TestCase):
    def test_wrong(self):
        offers = ((DONE, MORE), ((("b",), False),))
        self.assertEqual(Wish(offers, ({"a": 1}, {"b": 0})).steps, ({"a": 1}, {"b": 0}))
        for steps in ((), ({"a": 1},), ({"a": 1}, {"b": 0}, {}), ({"a": 1}, {}), ({}, {"b": 0}), ({"a": 1}, {"a": 0}),
                      ({"a": 1, "b": 0}, {"b": 0}), ({"a": 2}, {"b": 0}), ({"a": -1}, {"b": 0}), ({"a": True}, {"b": 0}),
                      ({"a": 1}, {"b": False}), ({"a": None}, {"b": 0}), ({"a": "1"}, {"b": 0}), ({"a": (1,)}, {"b": 0}),
                      ({"a": [1]}, {"b": 0}), ({"a": 10 ** 39}, {"b": 0}), ({"a": 1}, None), (None, {"b": 0}),
                      ({"a": 1}, (("b", 0),)), ({"a": 1}, ["b"]), ({"a": 1, None: 0}, {"b": 0}), ({0: 1}, {"b": 0}),
                      [{"a": 1}, {"b": 0}], {0: {"a": 1}, 1: {"b": 0}}, {"a": 1}, None, 0, True, "ab", turns()):
            with self.assertRaises(InvalidWish, msg=steps):
                Wish(offers, steps)
            with self.assertRaises(InvalidWish, msg=steps):
                Wish.of(offers, steps, ((), ()))

    def test_of_every_kind(self):
        for value in values_of_every_kind():
            if not are_same(value, ({"a": 0},)):
                with self.assertRaises(InvalidWish, msg=value):
                    Wish(((DONE, MORE),), value)
            if not are_same(value, {"a": 0}):
                with self.assertRaises(InvalidWish, msg=value):
                    Wish(((DONE, MORE),), (value,))
            if not are_same(value, 0):
                with self.assertRaises(InvalidWish, msg=value):
                    Wish(((DONE, MORE),), ({"a": value},))


class Lively(unittest.TestCase):
    def test_of_every_kind(self):
        for value in values_of_every_kind():
            if not isinstance(value, bool):
                with self.assertRaises(InvalidOperation, msg=value):
                    Wish(turns().offers, turns().steps, lively=value)

    def test_first_error(self):
        with self.assertRaises(InvalidWish):
            Wish(None, ({},), lively=None)
        with self.assertRaises(InvalidWish):
            Wish(((),), None, lively=None)
        with self.assertRaises(InvalidOperation):
            Wish(((),), ({},), lively=None)


class Goals(unittest.TestCase):
    def test_right(self):
        for goal in (((), {}), ((DONE,), {}), ((MORE,), {}), ((DONE, MORE), {}), ((), {"a": (0,)}), ((), {"a": (2,)}),
                     ((), {"a": (0, 1, 2)}), ((DONE, MORE), {"a": (0, 2)})):
            self.assertEqual(with_goals(goal).goals[0], (goal,))

    def test_at_the_bounds(self):
        goal = ((), {})
        self.assertEqual(with_goals(goal, goal, goal, goal).goals[0], (goal,) * 4)
        with self.assertRaises(InvalidWish):
            with_goals(goal, goal, goal, goal, goal)
        offers, steps = many_states(8)
        goals = tuple(tuple(((), {"a": (0, 1, 2, 3)}) for _ in range(4)) for _ in range(8))
        self.assertEqual(Wish.of(offers, steps, goals).goals, goals)

    def test_indices_are_of_the_next_state(self):
        offers, steps = ((MORE,), ()), ({"a": 1}, {})
        goal = ((), {})
        self.assertTrue(Wish.of(offers, steps, ((((), {"a": (1,)}),), (goal, goal))).has_goals)
        for goals in (((((), {"a": (0,)}), goal), ()), ((((), {"a": (1,)}), goal), (goal,))):
            with self.assertRaises(InvalidWish):
                Wish.of(offers, steps, goals)

    def test_wrong(self):
        for goal in ((), ((),), ((), {}, ()), [(), {}], ([], {}), ((DONE, DONE), {}), ((MORE, DONE), {}),
                     ((((), False),), {}), ((((("b",), False)),), {}), (((("a",), True),), {}), ((("a",),), {}),
                     ((None,), {}), (None, {}), (DONE, {}), ({DONE: 0}, {}), ((((), 1),), {}), ((), ()), ((), []),
                     ((), None), ((), (("a", (0,)),)), ((), {"a": ()}), ((), {"b": (0,)}), ((), {"a": (0,), "b": (0,)}),
                     ((), {"a": (3,)}), ((), {"a": (-1,)}), ((), {"a": (1, 0)}), ((), {"a": (0, 0)}), ((), {"a": 0}),
                     ((), {"a": [0]}), ((), {"a": (True,)}), ((), {"a": (0, True)}), ((), {"a": ("0",)}),
                     ((), {"a": (None,)}), ((), {"a": ((0,),)}), ((), {"a": ([],)}), ((), {"a": None}),
                     ((), {None: (0,)}), ((), {0: (0,)}), ((), {("a",): (0,)}), ((), {"a": (10 ** 39,)}),
                     {}, None, 0, True, "", "ab", few()):
            with self.assertRaises(InvalidWish, msg=goal):
                with_goals(goal)
            with self.assertRaises(InvalidWish, msg=goal):
                with_goals(((), {}), goal)

    def test_wrong_rows(self):
        offers, steps = turns().offers, turns().steps
        goal = ((), {})
        self.assertEqual(Wish.of(offers, steps, ((), ())), turns())
        for goals in ((), ((),), ((), (), ()), ((), [goal]), ((), None), (None, ()), ((), {}), ((), {0: goal}), ((), goal),
                      [(), ()], {0: (), 1: ()}, None, 0, True, "", "ab", turns()):
            with self.assertRaises(InvalidWish, msg=goals):
                Wish.of(offers, steps, goals)

    def test_of_every_kind(self):
        for value in values_of_every_kind():
            if not are_same(value, ()):
                for goals in ((value,), value, ((), value)):
                    with self.assertRaises(InvalidWish, msg=value):
                        Wish.of(((DONE, MORE), (DONE,)), ({"a": 0}, {}), goals)
            with self.assertRaises(InvalidWish, msg=value):
                with_goals(value)
            if not are_same(value, ()):
                with self.assertRaises(InvalidWish, msg=value):
                    with_goals((value, {}))
            if not isinstance(value, dict) or value not in ({},):
                with self.assertRaises(InvalidWish, msg=value):
                    with_goals(((), value))
            if not (isinstance(value, tuple) and value in ((0,), (0, 1)) and all(type(at) is int for at in value)):
                with self.assertRaises(InvalidWish, msg=value):
                    with_goals(((), {"a": value}))


class Kept(unittest.TestCase):
    def test_what_is_passed_can_change(self):
        first, moves = {"l": 0, "r": 0}, {"r": (0,)}
        wish = Wish.of(((LEFT, RIGHT),), (first,), ((((LEFT,), moves), ((RIGHT,), {"l": (1,)})),))
        first["l"] = 1
        first["x"] = 0
        moves.clear()
        self.assertEqual(tables_of(wish), tables_of(two()))
        self.assertEqual(wish, two())

    def test_what_is_returned_can_change(self):
        wish = two()
        wish.steps[0].clear()
        wish.goals[0][0][1].clear()
        for other in (wish.lively(), wish.without_goals(), wish & wish, wish.renamed({"l": "l", "r": "r"})):
            other.steps[0].clear()
            if other.has_goals:
                other.goals[0][0][1].clear()
        self.assertEqual(tables_of(wish), tables_of(two()))

    def test_nothing_changes_a_wish(self):
        wish = two()
        wish.after(("l",))
        wish.allows(("l",), LEFT)
        wish.lively()
        wish.without_goals()
        wish.renamed({"l": "r", "r": "l"})
        wish & few()
        self.assertEqual(tables_of(wish), tables_of(two()))


class Followed(unittest.TestCase):
    def test_after(self):
        self.assertEqual(turns().after(()), 0)
        self.assertEqual(turns().after(("put", "take", "put")), 1)
        self.assertIsNone(turns().after(("take",)))
        self.assertIsNone(turns().after(("put", "x", "put")))
        self.assertIsNone(Wish((), ()).after(()))
        self.assertIsNone(Wish((), ()).after(("a",)))
        self.assertEqual(few().after(("a",) * 500), 0)

    def test_after_and_allows_against_the_tables(self):
        for offers, steps, goals in some_wishes(30, "abc"):
            wish = Wish.of(offers, steps, goals)
            for word in ((), ("a",), ("b", "a"), ("a", "b", "c"), ("c", "c"), ("a", "a", "b", "a")):
                state = lead(steps, word)
                self.assertEqual(wish.after(word), state)
                for offer in every_offer("abc"):
                    self.assertIs(wish.allows(word, offer), state is not None and offer in offers[state])

    def test_allows(self):
        self.assertIs(turns().allows((), (("put",), True)), True)
        self.assertIs(turns().allows((), (("put",), False)), False)
        self.assertIs(turns().allows(("put",), (("take",), True)), False)
        self.assertIs(turns().allows(("take",), (("put",), True)), False)
        self.assertIs(turns().allows((), (("never",), True)), False)
        self.assertIs(Wish((), ()).allows((), DONE), False)
        self.assertIs(Wish(((),), ({},)).allows((), DONE), False)

    def test_wrong(self):
        for value in values_of_every_kind():
            for wish in (turns(), Wish((), ())):
                if not right_word(value):
                    with self.assertRaises(InvalidOperation, msg=value):
                        wish.after(value)
                    with self.assertRaises(InvalidOperation, msg=value):
                        wish.allows(value, DONE)
                if not right_offer(value):
                    with self.assertRaises(InvalidOperation, msg=value):
                        wish.allows((), value)
                    with self.assertRaises(InvalidOperation, msg=value):
                        wish.allows(("nowhere",), value)


class Compared(unittest.TestCase):
    def test_equal(self):
        for tables in some_wishes(30):
            self.assertTrue(wish_of(tables) == wish_of(tables))
            self.assertFalse(wish_of(tables) != wish_of(tables))

    def test_unequal(self):
        for other in (few(), two(), Wish((), ()), turns().lively(), Wish(turns().offers, ({"put": 0}, {"take": 0})),
                      Wish((((("put",), False),), ((("take",), False),)), turns().steps),
                      Wish((*turns().offers, ()), (*turns().steps, {}))):
            self.assertFalse(turns() == other)
            self.assertTrue(turns() != other)

    def test_goals_count(self):
        self.assertNotEqual(two(), two().without_goals())
        other = Wish.of(two().offers, two().steps, ((((LEFT,), {"r": (1,)}), ((RIGHT,), {"l": (1,)})),))
        self.assertNotEqual(two(), other)
        self.assertNotEqual(Wish(turns().offers, turns().steps, lively=True), turns())

    def test_every_kind(self):
        for value in values_of_every_kind():
            self.assertIs(turns() == value, False)
            self.assertIs(turns() != value, True)
            self.assertIs(Wish((), ()) == value, isinstance(value, Wish) and value.is_empty)
        self.assertFalse(turns() == turn())

    def test_cannot_be_iterated(self):
        with self.assertRaises(TypeError):
            iter(turns())


if __name__ == "__main__":
    unittest.main()
