"""The examples of the document, as they stand there."""

import doctest
import unittest

from whatparts import errors
from whatparts.core.alike import are_alike, covers, difference, is_difference, word_beyond
from whatparts.core.names import all_offers, all_words, is_offer, is_word
from whatparts.core.parts import Part
from whatparts.glue.inner import are_alike_joints, filled, joint_difference, least_joint, nested
from whatparts.glue.joints import Joint
from whatparts.live.desk import Desk
from whatparts.miss.compared import are_same, freest_part, full_wish, is_parting, is_within, least_wish, parting_part
from whatparts.miss.contracts import breaking_parts, is_breaking, whatever_wish
from whatparts.miss.exact import fits, missing_wish, standings_after, suits
from whatparts.miss.solved import find_part, good_offers, is_solve_paper, narrowed, rounds, solve_paper
from whatparts.text.formats import read_offer, read_part, read_wish, write_joint, write_part, write_wish, write_word
from whatparts.want.keeping import is_keep_paper, keep_paper, keeps, ways
from whatparts.want.wishes import Wish, free_wish

EXAMPLES = r'''
>>> TURN = Part(({"put": 1}, {"get": 0}), (0,))
>>> BELT = Joint({"left": ("get", "put"), "right": ("take",)}, ({"put": ({"left": "put"}, 0), "take": ({"left": "get", "right": "take"}, 0)},), (("left",),))
>>> ONE = Wish((((("put",), True),), ((("take",), False),)), ({"put": 1}, {"take": 0}))
>>> FEW = Wish(((((), True), (("a",), False)),), ({"a": 0},), lively=True)

>>> [all_offers(("a",)), list(all_words(("a", "b"), 2)), is_offer((("a", "b"), True)), is_offer((("b", "a"), True)), is_word(("b", "b", "a"))]
[(((), False), ((), True), (('a',), False), (('a',), True)), [(), ('a',), ('b',), ('a', 'a'), ('a', 'b'), ('b', 'a'), ('b', 'b')], True, False, True]

>>> [TURN.offer(0), TURN.after(("put", "get")), ("get",) in TURN, TURN[("put",)], list(TURN.words(2)), str(TURN)]
[(('put',), True), 0, False, (('get',), False), [(), ('put',), ('put', 'get')], 'part of 2 states, 2 actions']
>>> LOOSE = Part(({"a": 2}, {"a": 1}, {"a": 2, "b": 1}), (1,))
>>> [LOOSE.least() == Part(({"a": 1}, {"a": 1, "b": 2}, {"a": 2}), (2,)), LOOSE.is_least, Part.of_words((("a", "b"), ("a",)), (("a",),)) == Part(({"a": 1}, {"b": 2}, {}), (1,))]
[True, False, True]
>>> [(TURN & Part(({"put": 0},))).steps, (TURN | Part(({"get": 0},), (0,)))[("put", "get", "put")], len(TURN.without(("put",))), TURN.without(("put",)).least() == Part(({},), (0,))]
[({'put': 1}, {}), (('get',), False), 2, True]

>>> SLOW = Part(({"put": 1}, {"get": 2}, {"put": 1}), (0,))
>>> [are_alike(TURN, SLOW), difference(TURN, SLOW), is_difference(TURN, SLOW, ("put", "get")), are_alike(LOOSE, LOOSE.least()), covers(TURN, SLOW), word_beyond(TURN, Part(({"put": 0},)))]
[False, ('put', 'get'), True, True, True, ('put', 'put')]

>>> [len(ONE), ONE.after(("put", "take", "put")), ONE.allows(("put",), (("take",), True)), FEW.goals, FEW.has_goals, str(FEW)]
[2, 1, False, ((((((), True),), {'a': (0,)}),),), True, 'wish of 1 states, 2 offers, 1 goals']
>>> [ONE.lively().goals[1], ONE.lively().without_goals() == ONE, free_wish(()).offers, Wish((), ()).is_empty, Wish((), ()).after(())]
[(((), {'take': (0,)}),), True, ((((), False), ((), True)),), True, None]

>>> WHOLE = BELT({"left": TURN, "right": Part(({"take": 0},))})
>>> [keeps(WHOLE, ONE), keep_paper(WHOLE, ONE), is_keep_paper(TURN, ONE, ("offer", ("put",))), keeps(TURN, ONE), keep_paper(TURN, Wish((), ()))]
[True, ('kept', {(0, 0): (), (1, 1): ()}), True, False, ('offer', ())]
>>> SOME = Part(({"a": 1}, {}), (1,))
>>> [keeps(SOME, FEW), ways(SOME, FEW, ()), is_keep_paper(SOME, FEW, ("kept", {(0, 0): (1,), (1, 0): (0,)})), keep_paper(Part(({"a": 0},)), FEW)[0], is_keep_paper(Part(({"a": 0},)), FEW, ("goal", ("a", "a"), 0))]
[True, (('a',),), True, 'goal', True]

>>> [WHOLE.steps, WHOLE.rests, BELT.after(("put", "take", "take")), BELT.seen("left", ("put", "take", "take")), BELT.seen("right", ("put",)), str(BELT)]
[({'put': 1}, {'take': 0}), (0,), 0, ('put', 'get', 'get'), (), 'joint of 2 slots, 1 modes, 2 rules']

>>> PAIR = Joint({"left": ("get", "put"), "right": ("take",)}, ({"put": ({"left": "put"}, 1), "take": ({"left": "get", "right": "take"}, 1)}, {"put": ({"left": "put"}, 0), "take": ({"left": "get", "right": "take"}, 0)}), (("left",), ("left",)))
>>> [are_alike_joints(BELT, PAIR), least_joint(PAIR) == BELT, joint_difference(BELT, Joint(BELT.slots, BELT.rules, (None,))), filled(BELT, "left", TURN).slots]
[True, True, (), {'right': ('take',)}]
>>> INNER = Joint({"a": ("go",), "b": ("go",)}, ({"take": ({"a": "go"}, 1)}, {"take": ({"b": "go"}, 0)}), (("a", "b"), None))
>>> [nested(BELT, "right", INNER).slots, nested(BELT, "right", INNER).seen("b", ("put", "take", "put", "take"))]
[{'a': ('go',), 'b': ('go',), 'left': ('get', 'put')}, ('go',)]

>>> [standings_after(BELT, "right", ONE, {"left": TURN}, ()), suits(BELT, "right", ONE, {"left": TURN}, ("take",), ((), True))]
[((0, (0,), 0), (0, (1,), 1)), False]
>>> MUST = missing_wish(BELT, "right", ONE, {"left": TURN})
>>> [keeps(Part(({"take": 0},)), MUST), keeps(Part(({"take": 1}, {"take": 0}), (1,)), MUST), keeps(Part(({"take": 1}, {})), MUST), fits(BELT, ONE, {"left": TURN, "right": Part(({"take": 1}, {}))})]
[True, True, False, False]

>>> L = (("l",), False)
>>> R = (("r",), False)
>>> TWO = Wish.of(((L, R),), ({"l": 0, "r": 0},), ((((L,), {"r": (0,)}), ((R,), {"l": (1,)})),))
>>> NOT = Wish.of(((L, R),), ({"l": 0, "r": 0},), ((((L,), {}), ((R,), {})),))
>>> [rounds(TWO), rounds(NOT), good_offers(TWO, 0) == (L, R), find_part(NOT), solve_paper(NOT), keeps(find_part(TWO), TWO)]
[(), ((0,),), True, None, ('rounds', ((0,),)), True]
>>> DEAD = Wish(((L, R), ()), ({"l": 0, "r": 1}, {}))
>>> [rounds(DEAD), narrowed(DEAD).offers == ((L,),), is_solve_paper(TWO, ("part", Part(({"l": 1}, {"r": 0})))), is_solve_paper(TWO, ("part", Part(({"l": 0},))))]
[((1,),), True, True, False]

>>> OPEN = FEW.without_goals()
>>> [is_within(FEW, OPEN), is_within(OPEN, FEW), keeps(parting_part(OPEN, FEW), OPEN), is_parting(OPEN, FEW, Part(({"a": 0},))), are_same(ONE, ONE.lively())]
[True, False, True, True, True]
>>> [freest_part(FEW), are_alike(freest_part(OPEN), Part(({"a": 0},))), least_wish(DEAD).offers == ((L,),), full_wish(TWO).offers, are_alike(freest_part(DEAD), Part(({"l": 0},)))]
[None, True, True, ((),), True]

>>> SURE = Wish((((("put",), True),), ((("get",), False),)), ({"put": 1}, {"get": 0}))
>>> LAZY = Wish(((((), True), (("put",), True)), ((("get",), False),)), ({"put": 1}, {"get": 0}))
>>> [are_same(whatever_wish(BELT, "right", ONE, {"left": SURE}), MUST), find_part(whatever_wish(BELT, "right", ONE, {"left": LAZY})), breaking_parts(BELT, ONE, {"left": SURE, "right": Part(({"take": 0},))})]
[True, None, None]
>>> [is_breaking(BELT, ONE, {"left": LAZY, "right": Part(({"take": 0},))}, {"left": Part(({},), (0,)), "right": Part(({"take": 0},))}), breaking_parts(BELT, ONE, {"left": LAZY, "right": Part(({},))}) is None]
[True, False]

>>> [write_part(TURN), write_wish(FEW), read_offer("a+b!"), write_word(("b", "a")), read_wish(write_wish(TWO)) == TWO]
['part\n0! put 1\n1: get 0', 'wish\n0: 0!, a | a 0\ngoal 0! | a 0', (('a', 'b'), True), 'b a', True]
>>> write_joint(BELT)
'joint\nslot left: get put\nslot right: take\nmode 0: left\nput: left.put -> 0\ntake: left.get right.take -> 0'
>>> read_part("part\n0: put 1\n2: -")
raises ParseError

>>> desk = Desk(BELT)
>>> [desk.wish("turns", ONE), desk.put("left", TURN), desk.open_slots, are_same(desk.need("right"), MUST), desk.can_put("right", Part(({"take": 1}, {})))]
[None, None, ('right',), True, False]
>>> [desk.put("right", Part(({"take": 0},))), desk.whole == WHOLE, desk.during(lambda same: same.take("left")), desk.undo(), str(desk)]
[None, True, None, 2, 'desk of 2 slots, 1 open, 1 wishes']
>>> desk.put("right", TURN)
raises InvalidPart
>>> desk.put("right", Part(({},)))
raises Refused
'''
BROUGHT = (Desk, Joint, Part, Wish, all_offers, all_words, are_alike, are_alike_joints, are_same, breaking_parts, covers,
           difference, filled, find_part, fits, free_wish, freest_part, full_wish, good_offers, is_breaking,
           is_difference, is_keep_paper, is_offer, is_parting, is_solve_paper, is_within, is_word, joint_difference,
           keep_paper, keeps, least_joint, least_wish, missing_wish, narrowed, nested, parting_part, read_offer,
           read_part, read_wish, rounds, solve_paper, standings_after, suits, ways, whatever_wish, word_beyond,
           write_joint, write_part, write_wish, write_word)


class Examples(unittest.TestCase):
    def test_as_they_stand(self):
        brought = {value.__name__: value for value in BROUGHT}
        examples = doctest.DocTestParser().get_examples(EXAMPLES)
        for example in examples:
            if example.want.startswith("raises "):
                with self.assertRaises(getattr(errors, example.want.split()[1]), msg=example.source):
                    eval(example.source, brought)
            elif example.want:
                self.assertEqual(repr(eval(example.source, brought)) + "\n", example.want, example.source)
            else:
                exec(example.source, brought)
        self.assertEqual(len(examples), 47)


if __name__ == "__main__":
    unittest.main()
