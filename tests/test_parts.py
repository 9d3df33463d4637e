"""Parts: how they are made, what they tell, and what they do not take."""

import inspect
import unittest

from tests.helpers import are_same, lead, loose, names_in, offer_in, plain_words, right_number, right_word, ring
from tests.helpers import small_tables, some_tables, turn, values_of_every_kind
from whatparts.core import parts
from whatparts.core.parts import MAX_STATES, Part
from whatparts.errors import InvalidNumber, InvalidOperation, InvalidPart

METHODS = ("offer", "after", "words", "least", "renamed", "without", "of_words", "__contains__", "__getitem__",
           "__and__", "__or__", "__len__", "__eq__", "__str__")
# State 2 is reached by no word, and it alone does c.
LONELY = (({"a": 1}, {"b": 1}, {"c": 0, "a": 2}), (1, 2))


def eight(last=0):
    return (*({"a": 0} for _ in range(7)), {"a": last})


class Interface(unittest.TestCase):
    def test_constant(self):
        self.assertEqual(MAX_STATES, 8)

    def test_methods_stand_in_the_class(self):
        self.assertIs(vars(parts)["Part"], Part)
        self.assertEqual(Part.__module__, "whatparts.core.parts")
        for name in METHODS:
            self.assertIn(name, vars(Part))


class Made(unittest.TestCase):
    def test_properties(self):
        part = Part(({"put": 1, "get": 0}, {}, {"x": 1}), (0, 2))
        self.assertEqual(part.steps, ({"get": 0, "put": 1}, {}, {"x": 1}))
        self.assertEqual(part.rests, (0, 2))
        self.assertEqual(part.actions, ("get", "put", "x"))

    def test_rests_may_lack(self):
        self.assertEqual(Part(({},)).rests, ())
        self.assertEqual(Part(({},)), Part(({},), ()))

    def test_kinds_and_order_of_what_is_told(self):
        for steps, rests in some_tables(40):
            part = Part(tuple(dict(reversed(row.items())) for row in steps), rests)
            self.assertIsInstance(part.steps, tuple)
            self.assertIsInstance(part.rests, tuple)
            self.assertEqual(part.steps, steps)
            self.assertEqual(part.rests, rests)
            self.assertEqual(part.actions, names_in(steps))
            for row in part.steps:
                self.assertIsInstance(row, dict)
                self.assertEqual(list(row), sorted(row))

    def test_steps_at_the_bounds(self):
        self.assertEqual(len(Part(({},))), 1)
        self.assertEqual(len(Part(eight(7), tuple(range(8)))), 8)
        self.assertEqual(Part(({"a": 0, "b": 0, "c": 0, "d": 0},)).actions, ("a", "b", "c", "d"))
        self.assertEqual(Part(({"a": 0, "b": 1}, {"c": 1, "d": 0, "a": 1})).actions, ("a", "b", "c", "d"))
        self.assertEqual(Part(({"abcdefgh": 0},)).actions, ("abcdefgh",))

    def test_steps_beyond_the_bounds(self):
        for steps in ((), (*eight(), {}), eight(8), eight(-1), eight(True), eight(False), eight(None), ({"a": 1},),
                      ({"a": -1},), ({"a": True}, {}), ({"a": "0"},), ({"a": (0,)},), ({"a": 10 ** 39},),
                      ({"a": 0, "b": 0, "c": 0, "d": 0, "e": 0},), ({"a": 0, "b": 1}, {"c": 1, "d": 0, "e": 1}),
                      ({"a": 0}, {"b": 0}, {"c": 0}, {"d": 0}, {"e": 0}), ({"": 0},), ({"abcdefghi": 0},),
                      ({"A": 0},), ({"a1": 0},), ({"a b": 0},), ({0: 0},), ({None: 0},), ({("a",): 0},), ({True: 0},),
                      [{}], [{"a": 0}], {}, {"a": 0}, {0: {}}, "a", None, True, 0, ({}, None), ({}, []), ({}, ()),
                      ({}, (("a", 0),)), ([],), (turn(),), turn()):
            with self.assertRaises(InvalidPart, msg=steps):
                Part(steps)

    def test_steps_of_every_kind(self):
        right = [({},), ({"a": 0},)]
        for value in values_of_every_kind():
            if value not in right:
                with self.assertRaises(InvalidPart, msg=value):
                    Part(value)
            if not (isinstance(value, dict) and value in ({}, {"a": 0}, {"put": 0, "get": 0})):
                with self.assertRaises(InvalidPart, msg=value):
                    Part(({}, value))
            if not right_number(value, 0, 1):
                with self.assertRaises(InvalidPart, msg=value):
                    Part(({}, {"a": value}))

    def test_rests_at_the_bounds(self):
        for rests in ((), (0,), (1,), (0, 1)):
            self.assertEqual(Part(({}, {}), rests).rests, rests)
        for rests in ((2,), (-1,), (0, 2), (1, 0), (0, 0), (1, 1), (0, 1, 1), (True,), (False,), (False, True), (0, True),
                      (None,), ("0",), ((0,),), ([],), ({},), [], [0], [0, 1], {}, {0: 1}, "", "0", None, True, False,
                      0, 1, (10 ** 39,), turn()):
            with self.assertRaises(InvalidPart, msg=rests):
                Part(({}, {}), rests)

    def test_rests_of_every_kind(self):
        for value in values_of_every_kind():
            if value not in ((), (0,), (0, 1)) or not all(right_number(state, 0, 1) for state in value):
                with self.assertRaises(InvalidPart, msg=value):
                    Part(({}, {}), value)


class Kept(unittest.TestCase):
    def test_what_is_passed_can_change(self):
        first, second = {"put": 1}, {"get": 0}
        part = Part((first, second), (0,))
        first["put"] = 0
        first["more"] = 1
        second.clear()
        self.assertEqual(part, turn())
        self.assertEqual(part.steps, ({"put": 1}, {"get": 0}))
        self.assertEqual(list(part.words(2)), [(), ("put",), ("put", "get")])

    def test_what_is_returned_can_change(self):
        part = turn()
        part.steps[0]["put"] = 0
        part.steps[1].clear()
        part.least().steps[0].clear()
        part.renamed({"put": "a", "get": "b"}).steps[0].clear()
        part.without(()).steps[0].clear()
        (part & part).steps[0].clear()
        (part | part).steps[0].clear()
        self.assertEqual(part.steps, ({"put": 1}, {"get": 0}))
        self.assertEqual(part, turn())

    def test_what_parts_made_of_parts_return_can_change(self):
        made = [turn().least(), turn().renamed({"put": "a", "get": "b"}), turn().without(()), turn() & turn(),
                turn() | turn(), Part.of_words((("a", "b"),))]
        for part in made:
            before = part.steps
            for row in part.steps:
                row.clear()
                row["z"] = 9
            self.assertEqual(part.steps, before)
            self.assertNotIn("z", part.actions)

    def test_arguments_do_not_change(self):
        steps, names = ({"put": 1}, {"get": 0}), {"put": "get", "get": "put"}
        part = Part(steps, (0,))
        part.renamed(names)
        self.assertEqual((steps, names), (({"put": 1}, {"get": 0}), {"put": "get", "get": "put"}))
        renamed = part.renamed(names)
        names["put"] = "x"
        self.assertEqual(renamed.actions, ("get", "put"))
        one, other = turn(), loose()
        self.assertEqual([one & other, one | other], [one & other, one | other])
        self.assertEqual((one, other), (turn(), loose()))

    def test_nothing_changes_by_an_error(self):
        part = turn()
        for call in (lambda: part.offer(2), lambda: part.after(1), lambda: part[1], lambda: part & 1,
                     lambda: part | None, lambda: part.renamed({}), lambda: part.without(["put"])):
            with self.assertRaises((InvalidPart, InvalidOperation, InvalidNumber)):
                call()
        self.assertEqual(part, turn())


class Told(unittest.TestCase):
    def test_offer(self):
        self.assertEqual([turn().offer(0), turn().offer(1)], [(("put",), True), (("get",), False)])
        part = Part(*LONELY)
        self.assertEqual([part.offer(0), part.offer(1), part.offer(2)],
                         [(("a",), False), (("b",), True), (("a", "c"), True)])
        for steps, rests in some_tables(30):
            for state in range(len(steps)):
                found = Part(steps, rests).offer(state)
                self.assertEqual(found, offer_in(steps, rests, state))
                self.assertIsInstance(found[1], bool)

    def test_offer_of_no_state(self):
        for value in [*values_of_every_kind(), 2, -1, -2, True, False, None]:
            if not right_number(value, 0, 1):
                with self.assertRaises(InvalidNumber, msg=value) as caught:
                    turn().offer(value)
                self.assertTrue(are_same(caught.exception.value, value))

    def test_after_and_in_and_item(self):
        for steps, rests in [*small_tables()[::9], *some_tables(20), LONELY]:
            part = Part(steps, rests)
            for word in plain_words(names_in(steps), 4 if len(names_in(steps)) < 4 else 3):
                state = lead(steps, word)
                self.assertEqual(part.after(word), state)
                self.assertIs(word in part, state is not None)
                self.assertIs(word not in part, state is None)
                if state is None:
                    with self.assertRaises(InvalidOperation):
                        part[word]
                else:
                    self.assertEqual(part[word], offer_in(steps, rests, state))

    def test_long_words(self):
        word = ("put", "get") * 200
        self.assertEqual([turn().after(word), turn()[word], word in turn()], [0, (("put",), True), True])
        self.assertIsNone(turn().after((*word, "get")))

    def test_unknown_names_lead_nowhere(self):
        self.assertIsNone(turn().after(("x",)))
        self.assertIsNone(turn().after(("put", "x", "get")))
        self.assertNotIn(("x",), turn())
        with self.assertRaises(InvalidOperation):
            turn()[("x",)]

    def test_steps_of_unreached_states_make_no_words(self):
        part = Part(*LONELY)
        self.assertIsNone(part.after(("c",)))
        self.assertEqual(list(part.words(3)), [(), ("a",), ("a", "b"), ("a", "b", "b")])
        self.assertEqual(part.actions, ("a", "b", "c"))

    def test_after_what_is_no_word(self):
        for value in [*values_of_every_kind(), ["put"], "put", ("put", 1), ("put", "GET"), None, True]:
            if not right_word(value):
                with self.assertRaises(InvalidOperation, msg=value):
                    turn().after(value)

    def test_any_value_may_be_asked_for(self):
        own = [(), ("put",), ("put", "get")]
        for value in [*values_of_every_kind(), ["put"], "put", "", [], {}, None, True, 0, turn(), ([],), ({},)]:
            self.assertIs(value in turn(), value in own, value)
            self.assertIs(value not in turn(), value not in own, value)
            if value not in own:
                with self.assertRaises(InvalidOperation, msg=value):
                    turn()[value]

    def test_length_and_text(self):
        self.assertEqual([len(turn()), str(turn())], [2, "part of 2 states, 2 actions"])
        self.assertEqual([len(Part(({},))), str(Part(({},)))], [1, "part of 1 states, 0 actions"])
        self.assertEqual([len(loose()), str(loose())], [3, "part of 3 states, 2 actions"])
        self.assertEqual([len(Part(*LONELY)), str(Part(*LONELY))], [3, "part of 3 states, 3 actions"])
        self.assertEqual(str(ring(8)), "part of 8 states, 1 actions")


class Words(unittest.TestCase):
    def test_words_in_order(self):
        for steps, rests in [*small_tables()[::9], *some_tables(40), LONELY]:
            for most in range(5):
                expected = [word for word in plain_words(names_in(steps), most) if lead(steps, word) is not None]
                self.assertEqual(list(Part(steps, rests).words(most)), expected)

    def test_none_and_six(self):
        part = Part(({"a": 0, "b": 0, "c": 0, "d": 0},))
        self.assertEqual(list(part.words(0)), [()])
        self.assertEqual(list(part.words(6)), plain_words("abcd", 6))
        self.assertEqual(list(Part(({},)).words(6)), [()])
        self.assertEqual(list(turn().words(6))[-1], ("put", "get") * 3)

    def test_is_a_generator(self):
        words = turn().words(1)
        self.assertTrue(inspect.isgenerator(words))
        self.assertEqual([next(words), next(words), next(words, None)], [(), ("put",), None])

    def test_wrong_most(self):
        for value in [*values_of_every_kind(), 7, -1, True, False, None]:
            if not right_number(value, 0, 6):
                words = turn().words(value)
                with self.assertRaises(InvalidNumber, msg=value) as caught:
                    next(words)
                self.assertTrue(are_same(caught.exception.value, value))


class Compared(unittest.TestCase):
    def test_equal_steps_and_rests(self):
        self.assertTrue(turn() == turn())
        self.assertFalse(turn() != turn())
        self.assertTrue(Part(({"a": 0, "b": 0},)) == Part(({"b": 0, "a": 0},)))

    def test_unequal(self):
        others = [Part(({"put": 1}, {"get": 0})), Part(({"put": 1}, {"get": 0}), (1,)), Part(({"put": 1}, {"get": 1}), (0,)),
                  Part(({"put": 1}, {"got": 0}), (0,)), Part(({"put": 1}, {"get": 0}, {}), (0,)),
                  Part(({"put": 2}, {}, {"get": 0}), (0,)), Part(({"put": 1}, {}), (0,)), Part(({},), (0,))]
        for other in others:
            self.assertIs(turn() == other, False)
            self.assertIs(turn() != other, True)

    def test_alike_parts_can_be_unequal(self):
        self.assertIs(loose() == loose().least(), False)
        self.assertIs(loose() != loose().least(), True)

    def test_values_of_every_kind(self):
        part = ring(2)
        for value in [*values_of_every_kind(), part.steps, (part.steps, part.rests), str(part)]:
            self.assertIs(part == value, False)
            self.assertIs(part != value, True)
            self.assertIs(value == part, False)

    def test_parts_from_everywhere(self):
        made = Part.of_words((("put",),), ((),))
        self.assertTrue(made == Part(({"put": 1}, {}), (0,)))
        self.assertTrue(Part(({"put": 1}, {}), (0,)) == made)
        self.assertFalse(made == turn())


class NotIterated(unittest.TestCase):
    def test_type_error(self):
        for call in (iter, list, tuple, sorted, set, dict, enumerate, sum, max, "".join):
            with self.assertRaises(TypeError):
                call(turn())
        with self.assertRaises(TypeError):
            for _ in turn():
                pass
        with self.assertRaises(TypeError):
            _, _ = turn()


if __name__ == "__main__":
    unittest.main()
