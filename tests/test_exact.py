"""The wish on a missing part: standings, what suits them, and the wish itself."""

import random
import unittest

from tests.helpers import offer_in, plain_words, right_offer, right_word, ring, turn, values_of_every_kind
from tests.joining import belt, plain_whole
from tests.missing import does_fit, generous, objects, parts_of_slot, plain_standings, plain_suits, some_systems
from tests.wishing import does_keep, every_offer, part_of, right_wish, some_wish, table_of, tables_of, turns, wish_of
from whatparts.core.parts import Part
from whatparts.errors import InvalidJoint, InvalidOperation, InvalidPart, InvalidWish, TooMany, UnknownName
from whatparts.glue.inner import filled, nested
from whatparts.glue.joints import Joint
from whatparts.miss import exact
from whatparts.miss.exact import fits, missing_wish, standings_after, suits
from whatparts.miss.solved import find_part
from whatparts.want.keeping import keeps
from whatparts.want.wishes import Wish, free_wish

NAMES = ("standings_after", "suits", "missing_wish", "fits")
EMPTY = Wish((), ())


def must():
    """The wish MUST of the document."""
    return missing_wish(belt(), "right", turns(), {"left": turn()})


def going(states):
    """A wish that allows `a` alone, with so many states in a ring."""
    return Wish(tuple(((("a",), False),) for _ in range(states)),
                tuple({"a": (state + 1) % states} for state in range(states)))


def rod(ahead, states):
    """A part that does `a` through some states to a ring of some more."""
    return Part(tuple({"a": state + 1 if state < ahead + states - 1 else ahead} for state in range(ahead + states)))


def in_step(slots, actions=("a",)):
    """A joint of these slots, all of which do `a` together; the slot `x` has more actions, which no rule takes."""
    return Joint({slot: actions if slot == "x" else ("a",) for slot in slots},
                 ({"a": ({slot: "a" for slot in slots}, 0)},), (None,))


class Interface(unittest.TestCase):
    def test_all_stands_where_it_is_listed(self):
        for name in NAMES:
            self.assertEqual(vars(exact)[name].__module__, "whatparts.miss.exact")


class Standings(unittest.TestCase):
    def test_examples(self):
        system = belt(), "right", turns(), {"left": turn()}
        self.assertEqual(standings_after(*system, ()), ((0, (0,), 0), (0, (1,), 1)))
        self.assertEqual(standings_after(*system, ("take",)), ((0, (0,), 0), (0, (1,), 1)))

    def test_a_wish_that_does_not_follow(self):
        take = Part(({"take": 0},))
        self.assertEqual(standings_after(belt(), "left", turns(), {"right": take}, ()), ((0, (0,), 0),))
        self.assertEqual(standings_after(belt(), "left", turns(), {"right": take}, ("get",)), ((0, (0,), -1),))
        self.assertEqual(standings_after(belt(), "left", turns(), {"right": take}, ("get", "put")), ((0, (0,), -1),))
        self.assertEqual(standings_after(belt(), "left", turns(), {"right": take}, ("put", "get", "put")), ((0, (0,), 1),))

    def test_a_wish_without_states(self):
        self.assertEqual(standings_after(belt(), "right", EMPTY, {"left": turn()}, ()), ((0, (0,), -1), (0, (1,), -1)))
        self.assertEqual(standings_after(belt(), "left", EMPTY, {"right": Part(({},))}, ("get",)), ())

    def test_words_that_nothing_lets_be_done(self):
        self.assertEqual(standings_after(belt(), "left", turns(), {"right": Part(({},))}, ("put", "get")), ())
        self.assertEqual(standings_after(belt(), "left", turns(), {"right": Part(({},))}, ("get", "put")), ())
        self.assertIs(suits(belt(), "left", turns(), {"right": Part(({},))}, ("get",), ((), False)), True)

    def test_against_plain_reckoning(self):
        kinds = {}
        for system in some_systems(120, 1, states=3):
            names = system[0][0][system[1]]
            for word in plain_words(names, 3):
                found = standings_after(*objects(system), word)
                self.assertEqual(found, plain_standings(system, word), (system, word))
                self.assertIsInstance(found, tuple)
                kinds[len(found)] = kinds.get(len(found), 0) + 1
        self.assertGreater(min(kinds[many] for many in range(4)), 15)

    def test_what_the_whole_can_be_in(self):
        # What the whole of a part with just one word can be in when the part has done the word.
        for system in some_systems(60, 2):
            joint, slot, wish, others = system
            for word in plain_words(joint[0][slot], 2):
                line = tuple([{name: at + 1} for at, name in enumerate(word)] + [{}]), ()
                order = sorted({**others, slot: line})
                places = [at for at, name in enumerate(order) if name != slot]
                found = {(mode, tuple(states[at] for at in places), state)
                         for mode, states, state in whole_states(joint, {**others, slot: line}, wish)
                         if states[order.index(slot)] == len(word)}
                self.assertEqual(plain_standings(system, word), tuple(sorted(found)))

    def test_long_words(self):
        system = in_step("xy"), "x", going(7), {"y": ring(5) & ring(8)}
        for many in (0, 6, 7, 39, 40, 100, 279, 280, 300):
            self.assertEqual(standings_after(*system, ("a",) * many), ((0, (many % 40,), many % 7),))

    def test_wrong(self):
        right = [belt(), "right", turns(), {"left": turn()}]
        for value in values_of_every_kind():
            if not (right_word(value) and set(value) <= {"take"}):
                with self.assertRaises(InvalidOperation, msg=value):
                    standings_after(*right, value)
                for offer in (((), False), None, value):
                    with self.assertRaises(InvalidOperation, msg=value):
                        suits(*right, value, offer)
            if not (right_offer(value) and set(value[0]) <= {"take"}):
                with self.assertRaises(InvalidOperation, msg=value):
                    suits(*right, (), value)
                with self.assertRaises(InvalidOperation, msg=value):
                    suits(*right, ("take",), value)
        for word in (("put",), ("take", "get"), ["take"], "take"):
            with self.assertRaises(InvalidOperation, msg=word):
                standings_after(*right, word)
        for offer in ((("get",), False), (("put", "take"), True), (("take",), 1), [("take",), True], ("take",)):
            with self.assertRaises(InvalidOperation, msg=offer):
                suits(*right, (), offer)


def is_dict_of(value, *keys):
    return isinstance(value, dict) and set(value) == set(keys)


def whole_states(joint, tables, wish):
    """The modes, states of the parts by ascending slots, and states of the wish, that the whole can be in."""
    order = sorted(tables)
    found = {(0, (0,) * len(order), 0 if wish[0] else -1)}
    todo = list(found)
    while todo:
        mode, states, state = todo.pop()
        for action, (needs, behind) in joint[1][mode].items():
            nexts = [tables[name][0][at].get(needs[name]) if name in needs else at for name, at in zip(order, states)]
            goal = behind, tuple(nexts), wish[1][state].get(action, -1) if state >= 0 else -1
            if None not in nexts and goal not in found:
                found.add(goal)
                todo.append(goal)
    return found


class Suiting(unittest.TestCase):
    def test_examples(self):
        system = belt(), "right", turns(), {"left": turn()}
        self.assertIs(suits(*system, ("take",), ((), True)), False)
        self.assertIs(suits(*system, ("take",), (("take",), True)), True)
        self.assertIs(suits(*system, (), (("take",), False)), True)

    def test_against_plain_reckoning(self):
        found = {True: 0, False: 0}
        for system in some_systems(80, 3, states=3):
            names = system[0][0][system[1]]
            for word in plain_words(names, 2):
                for offer in every_offer(names):
                    right = plain_suits(system, word, offer)
                    found[right] += 1
                    self.assertIs(suits(*objects(system), word, offer), right, (system, word, offer))
        self.assertGreater(min(found.values()), 400)

    def test_nothing_suits_a_wish_that_does_not_follow(self):
        for offer in every_offer(("take",)):
            self.assertIs(suits(belt(), "right", EMPTY, {"left": turn()}, (), offer), False)
        for offer in every_offer(("get", "put")):
            self.assertIs(suits(belt(), "left", turns(), {"right": Part(({"take": 0},))}, ("get",), offer), False)

    def test_the_whole_keeps_exactly_if_all_offers_suit(self):
        source = random.Random(4)
        found = {True: 0, False: 0}
        for system in some_systems(60, 4, most_goals=0):
            for steps, rests in parts_of_slot(system, source, 3):
                words, kept = {(): 0}, True
                # Words of up to as many actions as there are pairs of a state and a tuple of standings would do.
                for word in plain_words(system[0][0][system[1]], 5):
                    state = words[()] if not word else words.get(word[:-1])
                    state = state if not word or state is None else steps[state].get(word[-1])
                    if state is not None:
                        words[word] = state
                        kept = kept and plain_suits(system, word, offer_in(steps, rests, state))
                found[kept] += 1
                self.assertEqual(does_fit(system, (steps, rests)), kept)
        self.assertGreater(min(found.values()), 60)


class Missing(unittest.TestCase):
    def test_examples(self):
        for part, right in ((Part(({"take": 0},)), True), (Part(({"take": 1}, {"take": 0}), (1,)), True),
                            (Part(({"take": 1}, {})), False), (Part(({},)), False), (turn(), False)):
            self.assertIs(keeps(part, must()), right)

    def check(self, system, tables):
        wish = missing_wish(*objects(system))
        self.assertTrue(right_wish(wish))
        self.assertLessEqual(set(wish.actions), set(system[0][0][system[1]]))
        if not any(system[2][2]):
            self.assertFalse(wish.has_goals)
        kept = [does_fit(system, table) for table in tables]
        for table, right in zip(tables, kept):
            self.assertEqual(does_keep(table, tables_of(wish)), right, (system, table))
            self.assertEqual(keeps(part_of(table), wish), right)
        return any(kept), all(kept), any(system[2][2])

    def test_a_part_keeps_it_exactly_if_the_whole_keeps_the_wish(self):
        source = random.Random(5)
        found = {}
        for system in some_systems(500, 5):
            kinds = self.check(system, parts_of_slot(system, source, 6))
            found[kinds] = found.get(kinds, 0) + 1
        self.assertGreater(min(found[True, False, goals] for goals in (True, False)), 10)
        self.assertGreater(min(found[True, True, goals] for goals in (True, False)), 20)

    def test_with_more_states(self):
        source = random.Random(6)
        for system in some_systems(40, 6, states=3, most_goals=4):
            self.check(system, parts_of_slot(system, source, 20))

    def test_without_goals(self):
        source = random.Random(7)
        for system in some_systems(120, 7, states=3, most_goals=0):
            self.check(system, parts_of_slot(system, source, 10))

    def test_parts_with_other_actions(self):
        one = belt(), "right", free_wish(("put", "take")), {"left": turn()}
        wish = missing_wish(*one)
        self.assertTrue(keeps(Part(({"take": 0},)), wish))
        for part in (Part(({"take": 0, "put": 0},)), Part(({"put": 0},)), Part(({"take": 1}, {"get": 0}))):
            self.assertFalse(keeps(part, wish))

    def test_goals_that_move_without_the_part(self):
        # The left part goes alone; the whole must be able to come to rest, which only the left part does.
        joint = Joint({"left": ("go",), "right": ("do",)}, ({"a": ({"left": "go"}, 0), "b": ({"right": "do"}, 0)},),
                      (("left",),))
        wish = free_wish(("a", "b")).lively()
        for left, right in ((Part(({"go": 1}, {}), (1,)), True), (Part(({"go": 0},)), False),
                            (Part(({"go": 1}, {"go": 2}, {"go": 3}, {}), (3,)), True),
                            (Part(({"go": 1}, {"go": 2}, {"go": 3}, {}), (1,)), False), (Part(({"go": 1}, {"go": 0}), (0,)), True), (Part(({},), (0,)), True), (Part(({},)), False)):
            missing = missing_wish(joint, "right", wish, {"left": left})
            for part in (Part(({},)), Part(({"do": 0},)), Part(({"do": 1}, {}), (1,))):
                self.assertEqual(keeps(part, missing), right)
        missing = missing_wish(joint, "left", wish, {"right": Part(({"do": 0},))})
        for part, right in ((Part(({"go": 1}, {}), (1,)), True), (Part(({"go": 0},)), False), (Part(({},), (0,)), True)):
            self.assertEqual(keeps(part, missing), right)

    def test_goals_along_several_steps_without_the_part(self):
        # The goal is done by the third step of the left part alone, and moves along the way there.
        joint = Joint({"left": ("go",), "right": ("do",)}, ({"a": ({"left": "go"}, 0), "b": ({"right": "do"}, 0)},), (None,))
        first = (("a", "b"), False)
        last = (("b",), False)
        free = free_wish(("a", "b"))
        goals = tuple((((last,) if at == 3 else (), {"a": (0,)} if at < 3 else {}),) for at in range(4))
        wish = Wish.of((free.offers[0],) * 4, tuple({"a": min(at + 1, 3), "b": at} for at in range(4)), goals)
        left = Part(({"go": 1}, {"go": 2}, {"go": 3}, {}))
        missing = missing_wish(joint, "right", wish, {"left": left})
        for part, right in ((Part(({"do": 0},)), True), (Part(({},)), False), (Part(({"do": 1}, {})), False)):
            self.assertEqual(keeps(part, missing), right)
            self.assertEqual(fits(joint, wish, {"left": left, "right": part}), right)
        self.assertIs(suits(joint, "right", wish, {"left": left}, (), (("do",), True)), True)
        self.assertIs(first in wish.offers[0], True)

    def test_parts_are_found_where_many_goals_are_served_anyway(self):
        # The left part has eight states, and in each of them the whole must be able to come to rest.
        joint = Joint({"left": ("a",), "right": ("do",)}, ({"a": ({"left": "a"}, 0), "b": ({"right": "do"}, 0)},), (("left",),))
        wish = missing_wish(joint, "right", free_wish(("a", "b")).lively(), {"left": ring(8)})
        self.assertTrue(keeps(Part(({},)), wish))
        self.assertIsNotNone(find_part(wish))
        joint = Joint(joint.slots, joint.rules, (("right",),))
        wish = missing_wish(joint, "right", free_wish(("a", "b")).lively(), {"left": ring(8)})
        self.assertEqual([keeps(Part(({},)), wish), keeps(Part(({"do": 1}, {}), (1,)), wish)], [False, True])
        self.assertTrue(keeps(find_part(wish), wish))

    def test_goals_that_are_served_anyway_are_not_told(self):
        # The only offer that is allowed leads from state to state, until in the last one it does the goal.
        offer = (("a",), False)
        for states in (1, 2, 8):
            goals = tuple((((offer,) if at == states - 1 else (), {"a": (0,)}),) for at in range(states))
            wish = Wish.of(((offer,),) * states, tuple({"a": (at + 1) % states} for at in range(states)), goals)
            missing = missing_wish(in_step("x"), "x", wish, {})
            self.assertEqual([keeps(Part(({"a": 0},)), missing), keeps(Part(({},)), missing), missing.has_goals],
                             [True, False, False])
        # Where another offer is allowed, too, the goal must be served.
        stop = ((), False)
        wish = Wish.of(((stop, offer), (stop, offer)), ({"a": 1}, {"a": 0}), ((((), {"a": (0,)}),), (((offer,), {}),)))
        missing = missing_wish(in_step("x"), "x", wish, {})
        self.assertEqual([keeps(Part(({"a": 0},)), missing), keeps(Part(({"a": 1}, {})), missing), missing.has_goals],
                         [True, False, True])

    def test_goals_that_need_the_part(self):
        joint = Joint({"left": ("go",), "right": ("do",)}, ({"a": ({"left": "go"}, 1)}, {"b": ({"right": "do"}, 0)}),
                      (("right",), None))
        wish = free_wish(("a", "b")).lively()
        missing = missing_wish(joint, "right", wish, {"left": Part(({"go": 0},))})
        self.assertTrue(missing.has_goals)
        for part, right in ((Part(({"do": 0},), (0,)), True), (Part(({"do": 0},)), False), (Part(({},), (0,)), False),
                            (Part(({"do": 1}, {"do": 0}), (1,)), True), (Part(({"do": 1}, {}), (0, 1)), False)):
            self.assertEqual(keeps(part, missing), right)

    def test_wish_without_states(self):
        for part in (Part(({"take": 0},)), Part(({},)), turn()):
            self.assertFalse(keeps(part, missing_wish(belt(), "right", EMPTY, {"left": turn()})))
        self.assertEqual(missing_wish(belt(), "right", EMPTY, {"left": turn()}).actions, ())

    def test_joints_that_functions_return(self):
        inside = Joint({"a": ("go",), "b": ("go",)}, ({"take": ({"a": "go"}, 1)}, {"take": ({"b": "go"}, 0)}),
                       (("a", "b"), None))
        joint = nested(belt(), "right", inside)
        joint = nested(joint, "left", Joint({"c": ("get", "put"), "d": ("tick",), "left": ()}, (
            {"put": ({"c": "put", "d": "tick"}, 1)}, {"get": ({"c": "get"}, 0)}), (("c", "left"), None)))
        self.assertEqual(len(joint.slots), 5)
        go = Part(({"go": 0},))
        rest = Part(({},), (0,))
        others = {"a": go, "b": go, "c": turn(), "left": rest}
        wish = missing_wish(joint, "d", turns(), others)
        for part in (Part(({"tick": 0},)), Part(({"tick": 1}, {})), Part(({},)), Part(({"tick": 1}, {"tick": 0}), (0,))):
            self.assertEqual(keeps(part, wish), keeps(joint({**others, "d": part}), turns()))
            self.assertEqual(fits(joint, turns(), {**others, "d": part}), keeps(part, wish))
        self.assertEqual([keeps(part, wish) for part in (Part(({"tick": 0},)), Part(({"tick": 1}, {})))], [True, False])
        del others["left"]
        wish = missing_wish(joint, "left", turns(), {**others, "d": Part(({"tick": 0},))})
        self.assertEqual([keeps(rest, wish), keeps(Part(({},)), wish)], [True, False])

    def test_the_only_slot(self):
        joint = filled(belt(), "left", turn())
        wish = missing_wish(joint, "right", turns(), {})
        self.assertTrue(keeps(Part(({"take": 0},)), wish))
        self.assertFalse(keeps(Part(({"take": 1}, {})), wish))
        self.assertEqual(standings_after(joint, "right", turns(), {}, ("take",)), ((0, (), 0), (1, (), 1)))
        alone = filled(joint, "right", Part(({"take": 0},)))
        self.assertIs(fits(alone, turns(), {}), True)
        with self.assertRaises(UnknownName):
            missing_wish(alone, "right", turns(), {})

    def test_a_slot_without_actions(self):
        joint = Joint({"a": (), "b": ("x",)}, ({"go": ({"b": "x"}, 0)},), (("a",),))
        wish = Wish((((("go",), True),),), ({"go": 0},))
        missing = missing_wish(joint, "a", wish, {"b": Part(({"x": 0},))})
        self.assertEqual([keeps(Part(({},), (0,)), missing), keeps(Part(({},)), missing)], [True, False])


class Limits(unittest.TestCase):
    def test_forty_and_forty_one(self):
        for system, many in (((in_step("xy"), "x", going(8), {"y": ring(5)}), 40),
                             ((in_step("xy"), "x", going(7), {"y": ring(5)}), 35),
                             ((in_step("xyz"), "x", going(7), {"y": ring(5), "z": rod(4, 1)}), 39),
                             ((in_step("xyz"), "x", going(7), {"y": ring(5), "z": rod(5, 1)}), 40),
                             ((in_step("xyz"), "x", going(7), {"y": ring(5), "z": rod(6, 1)}), 41),
                             ((in_step("xyz", ("a", "b")), "x", going(7), {"y": ring(5), "z": rod(4, 1)}), 40),
                             ((in_step("xyz", ("a", "b")), "x", going(7), {"y": ring(5), "z": rod(5, 1)}), 41),
                             ((in_step("xy", ("a", "b")), "x", going(8), {"y": ring(5)}), 41),
                             ((in_step("xy"), "x", going(8), {"y": ring(7)}), 56)):
            words = [("a",) * length for length in range(60)] + [("b",)] * (len(system[0].slots["x"]) - 1)
            self.assertEqual(len({standings_after(*system, word) for word in words}), many)
            if many > 40:
                with self.assertRaises(TooMany) as caught:
                    missing_wish(*system)
                self.assertEqual(caught.exception.limit, 40)
            else:
                self.assertTrue(keeps(Part(({"a": 0},)), missing_wish(*system)))
                self.assertFalse(keeps(Part(({"a": 1}, {})), missing_wish(*system)))

    def test_words_count_also_where_no_offer_suits(self):
        # No offer suits at first, as the whole must not go; and still all words count.
        wish = Wish.of((((("b",), False),), *going(7).offers), ({"b": 1}, *[{"a": 1 + at % 7} for at in range(1, 8)]),
                       ((),) * 8)
        joint = Joint({"x": ("a", "b"), "y": ("a",)}, ({"a": ({"x": "a", "y": "a"}, 0), "b": ({"x": "b"}, 0)},), (None,))
        none = Wish((((("b",), True),), *wish.offers[1:]), wish.steps)
        for one in (wish, none):
            with self.assertRaises(TooMany):
                missing_wish(joint, "x", one, {"y": ring(8)})
        self.assertFalse(keeps(Part(({"b": 0},)), missing_wish(joint, "x", none, {"y": ring(3)})))

    def test_other_errors_come_first(self):
        system = [in_step("xy"), "x", going(8), {"y": ring(7)}]
        for at, value, error in ((0, None, InvalidJoint), (1, "z", UnknownName), (2, None, InvalidWish),
                                 (3, {}, InvalidOperation), (3, {"y": turn()}, InvalidPart)):
            wrong = list(system)
            wrong[at] = value
            with self.assertRaises(error):
                missing_wish(*wrong)
        self.assertEqual(standings_after(*system, ("a",)), ((0, (1,), 1),))
        self.assertIs(suits(*system, ("a",), (("a",), True)), True)
        self.assertIs(fits(system[0], system[2], {"x": ring(1), "y": ring(7)}), True)


class Fitting(unittest.TestCase):
    def test_example(self):
        self.assertIs(fits(belt(), turns(), {"left": turn(), "right": Part(({"take": 1}, {}))}), False)
        self.assertIs(fits(belt(), turns(), {"left": turn(), "right": Part(({"take": 0},))}), True)

    def test_against_plain_reckoning(self):
        source = random.Random(8)
        found = {True: 0, False: 0}
        for system in some_systems(100, 8):
            joint, slot, wish, others = system
            for table in parts_of_slot(system, source, 3):
                right = does_keep(plain_whole(joint, {**others, slot: table}), wish)
                found[right] += 1
                one, _, two, parts = objects(system)
                self.assertIs(fits(one, two, {**parts, slot: part_of(table)}), right)
        self.assertGreater(min(found.values()), 200)

    def test_wrong(self):
        parts = {"left": turn(), "right": Part(({"take": 0},))}
        for value in values_of_every_kind():
            if not isinstance(value, Joint):
                for more in ((turns(), parts), (None, None), (value, value)):
                    with self.assertRaises(InvalidJoint, msg=value):
                        fits(value, *more)
            if not isinstance(value, Wish):
                for more in (parts, None, value):
                    with self.assertRaises(InvalidWish, msg=value):
                        fits(belt(), value, more)
            with self.assertRaises(InvalidOperation, msg=value):
                fits(belt(), turns(), value)
            if not (isinstance(value, Part) and set(value.actions) <= {"get", "put"}):
                with self.assertRaises(InvalidPart, msg=value):
                    fits(belt(), turns(), {**parts, "left": value})


class Statements(unittest.TestCase):
    def test_a_wish_that_all_wholes_keep(self):
        for system in some_systems(60, 9):
            joint, slot, _, others = system
            one, _, _, parts = objects(system)
            wish = missing_wish(one, slot, free_wish(one.actions), parts)
            for table in parts_of_slot(system):
                self.assertTrue(keeps(part_of(table), wish))

    def test_two_wishes(self):
        source = random.Random(10)
        found = {True: 0, False: 0}
        for system in some_systems(150, 10):
            joint, slot, wish, parts = objects(system)
            other = wish_of(generous(source, some_wish(source, "xy", 2, 1)))
            first, second = missing_wish(joint, slot, wish, parts), missing_wish(joint, slot, other, parts)
            both = missing_wish(joint, slot, wish & other, parts)
            for table in parts_of_slot(system, source, 4):
                part = part_of(table)
                right = keeps(part, first) and keeps(part, second)
                found[right] += 1
                self.assertEqual(keeps(part, both), right)
        self.assertGreater(min(found.values()), 150)

    def test_the_greatest_one(self):
        # A wish all of whose parts make the whole keep the wish has no part that does not keep the missing one:
        # here the wishes that allow just what one part does.
        for system in some_systems(100, 11):
            wish = missing_wish(*objects(system))
            for steps, rests in parts_of_slot(system):
                exact_wish = Wish(tuple((offer_in(steps, rests, at),) for at in range(len(steps))), steps)
                self.assertTrue(keeps(Part(steps, rests), exact_wish))
                if does_fit(system, (steps, rests)):
                    self.assertTrue(keeps(Part(steps, rests).least(), wish))


class Wrong(unittest.TestCase):
    def test_first_error(self):
        for function, more in ((missing_wish, ()), (standings_after, ((),)), (standings_after, (None,)),
                               (suits, ((), ((), False))), (suits, (None, None))):
            others = {"left": turn()}
            for value in values_of_every_kind():
                if not isinstance(value, Joint):
                    for rest in (("right", turns(), others), (None, None, None), (value, value, value)):
                        with self.assertRaises(InvalidJoint, msg=value):
                            function(value, *rest, *more)
                for rest in ((turns(), others), (None, None), (value, value)):
                    with self.assertRaises(UnknownName, msg=value) as caught:
                        function(belt(), value, *rest, *more)
                    self.assertIs(caught.exception.name, value)
                if not isinstance(value, Wish):
                    for rest in (others, None, value):
                        with self.assertRaises(InvalidWish, msg=value):
                            function(belt(), "right", value, rest, *more)
                with self.assertRaises(InvalidPart if is_dict_of(value, "left") else InvalidOperation, msg=value):
                    function(belt(), "right", turns(), value, *more)
                if not (isinstance(value, Part) and set(value.actions) <= {"get", "put"}):
                    with self.assertRaises(InvalidPart, msg=value):
                        function(belt(), "right", turns(), {"left": value}, *more)

    def test_others(self):
        take = Part(({"take": 0},))
        for others in ({}, {"left": turn(), "right": take}, {"right": take}, {"left": turn(), "x": take}, {None: turn()},
                       (("left", turn()),), [turn()], turn()):
            with self.assertRaises(InvalidOperation):
                missing_wish(belt(), "right", turns(), others)
        joint = in_step("xyz")
        for others, error in (({"y": take, "z": None}, InvalidPart), ({"y": ring(2), "z": take}, InvalidPart),
                              ({"y": None}, InvalidOperation), ({"y": ring(2), "z": Part(({"a": 0}, {"b": 1}))}, InvalidPart)):
            with self.assertRaises(error):
                missing_wish(joint, "x", turns(), others)

    def test_nothing_is_changed(self):
        joint, wish, part = belt(), turns(), turn()
        others = {"left": part}
        made = missing_wish(joint, "right", wish, others)
        before = tables_of(made)
        standings_after(joint, "right", wish, others, ("take",))
        suits(joint, "right", wish, others, (), ((), True))
        fits(joint, wish, {**others, "right": Part(({"take": 0},))})
        self.assertEqual([joint, wish, part, others], [belt(), turns(), turn(), {"left": turn()}])
        made.steps[0].clear()
        others.clear()
        self.assertEqual(tables_of(made), before)
        self.assertEqual(missing_wish(belt(), "right", turns(), {"left": turn()}), made)
        self.assertEqual(table_of(part), table_of(turn()))


if __name__ == "__main__":
    unittest.main()
