"""Wishes solved: rounds, good offers, narrowed wishes, found parts, and papers."""

import itertools
import random
import unittest

from tests.helpers import are_same, lead, names_in, offer_in, plain_words, right_number, ring, turn, values_of_every_kind
from tests.solving import can_be_kept, plain_good_offers, plain_lost, plain_narrowed, plain_rounds, right_solve_paper
from tests.solving import small_tables_of, with_word
from tests.wishing import LEFT, RIGHT, does_keep, few, part_of, picked_part, right_wish, some_pairs, some_wishes, table_of
from tests.wishing import tables_of, turns, two, wish_of
from whatparts.core.parts import Part
from whatparts.errors import InvalidNumber, InvalidWish, TooMany
from whatparts.miss import solved
from whatparts.miss.solved import MAX_SERVED, find_part, good_offers, is_solve_paper, narrowed, rounds, solve_paper
from whatparts.want.keeping import keeps
from whatparts.want.wishes import Wish, free_wish

NAMES = ("rounds", "good_offers", "narrowed", "find_part", "solve_paper", "is_solve_paper")
EMPTY = Wish((), ())


def no():
    """The wish NOT of the document."""
    return Wish.of(((LEFT, RIGHT),), ({"l": 0, "r": 0},), ((((LEFT,), {}), ((RIGHT,), {})),))


def dead():
    """The wish DEAD of the document."""
    return Wish(((LEFT, RIGHT), ()), ({"l": 0, "r": 1}, {}))


def one_by_one(many, actions="abcd"):
    """A wish with one state and so many goals: each is done by one offer of one action, and moves by all others."""
    offers = tuple((tuple(sorted(names)), False) for names in
                   [*[(action,) for action in actions], *itertools.combinations(actions, 2)])
    goals = tuple((((offer,), {action: (at,) for action in actions})) for at, offer in enumerate(offers[:many]))
    order = tuple(sorted(offers))
    wish = Wish((order,), ({action: 0 for action in actions},))
    # A wish with more than four goals comes from wishes with fewer.
    for at in range(0, many, 4):
        some = tuple((done, {action: (index,) for action in actions}) for index, (done, _) in enumerate(goals[at:at + 4]))
        wish = wish & Wish.of((order,), ({action: 0 for action in actions},), (some,))
    return wish


def samples(many, seed, most_goals=3):
    """Tables of wishes, about half of which some part keeps."""
    return some_wishes(many, "abc", seed, most_goals) + some_wishes(many, "ab", seed + 1000, 1)


class Interface(unittest.TestCase):
    def test_all_stands_where_it_is_listed(self):
        self.assertEqual(MAX_SERVED, 6)
        for name in NAMES:
            self.assertEqual(vars(solved)[name].__module__, "whatparts.miss.solved")


class Rounds(unittest.TestCase):
    def test_examples(self):
        self.assertEqual([rounds(two()), rounds(no()), rounds(dead())], [(), ((0,),), ((1,),)])

    def test_all_lost_states_of_a_round_at_once(self):
        # States 3 and 4 are lost at once, though no offer leads to 4; then 2, then the first two.
        stop = (("a",), False)
        wish = Wish(((stop,), (stop,), (stop,), (), (), (((), True),)),
                    ({"a": 1}, {"a": 2}, {"a": 3}, {}, {}, {}))
        self.assertEqual(rounds(wish), ((3, 4), (2,), (1,), (0,)))
        self.assertEqual([good_offers(wish, state) for state in range(6)], [(), (), (), (), (), (((), True),)])

    def test_goals_out_of_reach(self):
        # The first state has a good offer, but its goal is done behind the second state alone, which is lost.
        go, end = (("a",), False), (("b",), False)
        goals = ((((), {"a": (0,), "b": (0,)}),), ((((("b",), True),), {}),))
        wish = Wish.of(((go, end), ((("b",), True),)), ({"a": 0, "b": 1}, {"b": 1}), goals)
        self.assertEqual(rounds(wish), ())
        wish = Wish.of(((go, end), (end, (("b",), True))), ({"a": 0, "b": 1}, {"b": 1}),
                       (goals[0], (((), {"b": (0,)}),)))
        self.assertEqual(rounds(wish), ((0, 1),))
        wish = Wish.of(((go, end), (end, (("b",), True))), ({"a": 0, "b": 1}, {"b": 1}),
                       (goals[0], ((((("b",), True),), {}),)))
        self.assertEqual([rounds(wish), good_offers(wish, 1)], [(), ((("b",), True),)])

    def test_empty(self):
        self.assertEqual([rounds(EMPTY), rounds(Wish(((),), ({},))), rounds(free_wish(()))], [(), ((0,),), ()])

    def test_against_plain_reckoning(self):
        lengths = {}
        for tables in samples(150, 1):
            wish = wish_of(tables)
            found = rounds(wish)
            self.assertEqual(found, plain_rounds(tables))
            lengths[len(found)] = lengths.get(len(found), 0) + 1
            self.assertEqual([good_offers(wish, state) for state in range(len(wish))], plain_good_offers(tables))
        self.assertGreater(min(lengths[0], lengths[1], lengths[2]), 10)

    def test_wishes_beyond_the_bounds(self):
        for one, other in zip(samples(25, 2), samples(25, 3)):
            wish = (wish_of(one) & wish_of(other)).lively()
            self.assertEqual(rounds(wish), plain_rounds(tables_of(wish)))
            self.assertEqual(tables_of(narrowed(wish)), plain_narrowed(tables_of(wish)))

    def test_wrong(self):
        for value in values_of_every_kind():
            if not isinstance(value, Wish):
                for call in (lambda: rounds(value), lambda: good_offers(value, 0), lambda: good_offers(value, None)):
                    with self.assertRaises(InvalidWish, msg=value):
                        call()
            if not right_number(value, 0, 1):
                with self.assertRaises(InvalidNumber, msg=value) as caught:
                    good_offers(dead(), value)
                self.assertIs(caught.exception.value, value)
            with self.assertRaises(InvalidNumber, msg=value):
                good_offers(EMPTY, value)


class Narrowed(unittest.TestCase):
    def test_examples(self):
        self.assertEqual(tables_of(narrowed(dead())), (((LEFT,),), ({"l": 0},), ((),)))
        self.assertEqual([narrowed(two()), narrowed(no()), narrowed(EMPTY)], [two(), EMPTY, EMPTY])

    def test_goals_go_by_what_remains(self):
        both = (("l", "r"), True)
        wish = Wish.of(((LEFT, both, RIGHT), (), (((), True),)), ({"l": 0, "r": 1}, {}, {}),
                       ((((LEFT, both), {"l": (0, 1), "r": (0,)}), ((RIGHT,), {"l": (0,)})), (((), {}),), ()))
        self.assertEqual(tables_of(narrowed(wish)),
                         (((LEFT,),), ({"l": 0},), ((((LEFT,), {"l": (0, 1)}), ((), {"l": (0,)})),)))

    def test_against_plain_reckoning(self):
        found = {True: 0, False: 0}
        for tables in samples(150, 4):
            wish = narrowed(wish_of(tables))
            self.assertEqual(tables_of(wish), plain_narrowed(tables))
            self.assertTrue(right_wish(wish))
            found[wish.is_empty] += 1
        self.assertGreater(min(found.values()), 60)

    def test_the_same_parts_keep_it(self):
        kept = 0
        for part, tables in some_pairs(150, "abc", 5, 2):
            self.assertEqual(does_keep(part, tables), keeps(part_of(part), narrowed(wish_of(tables))))
            kept += does_keep(part, tables)
        self.assertGreater(kept, 40)

    def test_wrong(self):
        for value in values_of_every_kind():
            if not isinstance(value, Wish):
                for function in (narrowed, find_part, solve_paper):
                    with self.assertRaises(InvalidWish, msg=value):
                        function(value)


class Found(unittest.TestCase):
    def check(self, tables):
        part = find_part(wish_of(tables) if isinstance(tables, tuple) else tables)
        tables = tables if isinstance(tables, tuple) else tables_of(tables)
        self.assertEqual(part is not None, can_be_kept(tables))
        if part is not None:
            self.assertIsInstance(part, Part)
            self.assertTrue(does_keep(table_of(part), tables), tables)
            self.assertLessEqual(set(names_in(part.steps)), set(names_in(tables[1])))
        return part

    def test_examples(self):
        self.assertIsNone(find_part(no()))
        self.assertTrue(keeps(find_part(two()), two()))
        self.assertTrue(keeps(find_part(dead()), dead()))
        self.assertIsNone(find_part(EMPTY))

    def test_found_exactly_if_the_first_state_is_left(self):
        found = {True: 0, False: 0}
        for tables in samples(200, 6) + some_wishes(200, "abcd", 7, 4):
            found[self.check(tables) is not None] += 1
        self.assertGreater(min(found.values()), 100)

    def test_with_more_goals_and_states(self):
        for one, other in zip(some_wishes(150, "ab", 8, 2), some_wishes(150, "ab", 9, 2)):
            wish = wish_of(one) & wish_of(other)
            self.check(wish)
            self.check(wish.lively())

    def test_goals_that_wait_for_each_other(self):
        for many in range(7):
            part = self.check(one_by_one(many))
            self.assertGreaterEqual(len(part), max(1, many))

    def test_goals_that_part_their_ways(self):
        # By a the first two goals go on, by b the third; behind, they want other offers and other ways back.
        both = (("a", "b"), False)
        offers = ((both,), (LEFT, RIGHT), (LEFT, (("l", "r"), False), RIGHT))
        steps = ({"a": 1, "b": 2}, {"l": 0, "r": 2}, {"l": 1, "r": 0})
        goals = ((((), {"a": (0, 1)}), ((), {"a": (1,)}), ((), {"b": (0,)})),
                 (((LEFT,), {"r": (1,)}), ((RIGHT,), {"l": (1,)})),
                 (((RIGHT,), {"l": (0,)}), ((), {"l": (1,), "r": (2,)})))
        self.check((offers, steps, goals))

    def test_a_part_may_need_more_states_than_the_wish(self):
        self.assertEqual([len(two()), len(find_part(two())) > 1], [1, True])
        self.assertFalse(any(does_keep(table, tables_of(two())) for table in small_tables_of("lr", 1)))

    def test_no_small_part_keeps_what_cannot_be_kept(self):
        tables = small_tables_of("ab")
        many = 0
        for wish in some_wishes(60, "ab", 10, 2):
            if not can_be_kept(wish):
                many += 1
                self.assertFalse(any(does_keep(table, wish) for table in tables[::7]))
                self.assertEqual([find_part(wish_of(wish)), solve_paper(wish_of(wish))[0]], [None, "rounds"])
        self.assertGreater(many, 15)

    def test_good_offers_are_those_of_parts(self):
        shown = 0
        for wish in some_wishes(70, "ab", 11, 2):
            best = plain_narrowed(wish)
            for word in plain_words("ab", 2):
                state = lead(best[1], word) if best[0] else None
                if state is None:
                    continue
                for offer in best[0][state]:
                    if len(best[0]) + len(word) < 8:
                        part = find_part(wish_of(with_word(best, word, offer)))
                        self.assertTrue(does_keep(table_of(part), wish))
                        self.assertEqual(part[word], offer)
                        shown += 1
        self.assertGreater(shown, 200)

    def test_parts_have_good_offers_alone(self):
        source = random.Random(12)
        many = 0
        for wish in some_wishes(200, "ab", 12, 2):
            table = picked_part(source, wish)
            if does_keep(table, wish):
                many += 1
                good = plain_good_offers(wish)
                for word in plain_words("ab", 4):
                    p, q = lead(table[0], word), lead(wish[1], word)
                    if p is not None:
                        self.assertIn(offer_in(*table, p), good[q])
        self.assertGreater(many, 30)

    def test_six_and_seven_goals(self):
        self.assertTrue(keeps(find_part(one_by_one(6)), one_by_one(6)))
        for function in (find_part, solve_paper):
            for many in (7, 8, 10):
                with self.assertRaises(TooMany) as caught:
                    function(one_by_one(many))
                self.assertEqual(caught.exception.limit, 6)
        self.assertEqual([len(row) for row in narrowed(one_by_one(7)).goals], [7])
        self.assertEqual([rounds(one_by_one(9)), len(good_offers(one_by_one(9), 0))], [(), 10])

    def test_only_states_of_the_narrowed_wish_count(self):
        seven = two()
        for _ in range(5):
            seven = seven.lively()
        self.assertEqual([len(seven.goals[0]), find_part(seven)], [7, None])
        self.assertEqual(solve_paper(seven), ("rounds", ((0,),)))
        # The state with more goals is reached by a bad offer alone.
        rest = ((), True)
        goals = ((), tuple(((), {}) for _ in range(4)))
        many = Wish.of(((rest, RIGHT), (LEFT,)), ({"r": 1}, {"l": 1}), goals)
        for _ in range(3):
            many = many & Wish.of(((rest, RIGHT), (LEFT,)), ({"r": 1}, {"l": 1}), goals)
        self.assertEqual([len(row) for row in many.goals], [0, 16])
        self.assertEqual([rounds(many), table_of(find_part(many))], [((1,),), (({},), (0,))])


class Papers(unittest.TestCase):
    def test_examples(self):
        self.assertEqual(solve_paper(no()), ("rounds", ((0,),)))
        self.assertEqual(solve_paper(EMPTY), ("rounds", ()))
        self.assertIs(is_solve_paper(two(), ("part", Part(({"l": 1}, {"r": 0})))), True)
        self.assertIs(is_solve_paper(two(), ("part", Part(({"l": 0},)))), False)

    def test_right_ones_are_returned_and_accepted(self):
        kinds = {"part": 0, "rounds": 0}
        for tables in samples(150, 13):
            wish = wish_of(tables)
            paper = solve_paper(wish)
            kinds[paper[0]] += 1
            self.assertTrue(right_solve_paper(tables, paper, Part))
            self.assertIs(is_solve_paper(wish, paper), True)
        self.assertGreater(min(kinds.values()), 60)

    def test_rows_of_others(self):
        found = {True: 0, False: 0}
        source = random.Random(14)
        for tables in samples(120, 15):
            wish = wish_of(tables)
            states = range(len(wish))
            right = rounds(wish)
            papers = [right, right[:-1], right[::-1], tuple((state,) for row in right for state in row),
                      tuple((state,) for row in right for state in reversed(row)), (tuple(states),), ((0,),), (),
                      (*right, (0,)), ((0,), *right), (*right, ()), tuple(row[::-1] for row in right),
                      tuple(row[:1] for row in right), (tuple(sorted(state for row in right for state in row)),)]
            for _ in range(6):
                papers.append(tuple(tuple(sorted(source.sample(states, source.randint(1, min(2, len(states))))))
                                    for _ in range(source.randint(1, 3))))
            for rows in papers:
                expected = right_solve_paper(tables, ("rounds", rows), Part)
                found[expected] += 1
                self.assertIs(is_solve_paper(wish, ("rounds", rows)), expected, (tables, rows))
        self.assertGreater(min(found.values()), 250)

    def test_rows_need_not_be_whole_rounds(self):
        stop = (("a",), False)
        wish = Wish(((stop,), (stop,), (), ()), ({"a": 1}, {"a": 2}, {}, {}))
        for rows, right in ((((2, 3), (1,), (0,)), True), (((2,), (1,), (0,)), True), (((2,), (1,), (0,), (3,)), True),
                            (((2,), (1, 3), (0,)), True), (((3,), (2,), (1,), (0,)), True), (((2,), (0,), (1,)), False),
                            (((2,), (1,)), False), (((1,), (2,), (0,)), False), (((2,), (0, 1)), False),
                            (((2, 3), (1,), (0, 3)), False), (((2,), (1,), (0,), (0,)), False),
                            (((3, 2), (1,), (0,)), False), (((2, 2), (1,), (0,)), False), (((2,), (), (1,), (0,)), False),
                            (([2], (1,), (0,)), False), (((2,), (True,), (0,)), False), (((2,), (1,), (False,)), False),
                            (((2,), (1,), (0,), (4,)), False), (((2,), (1,), (0,), (-1,)), False),
                            (((2,), (1,), (0,), ("3",)), False), (((2,), (1,), (0,), None), False), ((2, 1, 0), False),
                            ([(2,), (1,), (0,)], False), (((2,), (1,), ((0,),)), False), (((2,), (1,), (None,)), False)):
            self.assertIs(is_solve_paper(wish, ("rounds", rows)), right, rows)

    def test_parts_of_others(self):
        found = {True: 0, False: 0}
        for part, tables in some_pairs(150, "abc", 16, 2):
            right = does_keep(part, tables)
            found[right] += 1
            self.assertIs(is_solve_paper(wish_of(tables), ("part", part_of(part))), right)
        self.assertGreater(min(found.values()), 50)
        self.assertTrue(is_solve_paper(few(), ("part", Part(({"a": 1}, {}, {"b": 0, "c": 2}), (1,)))))
        self.assertTrue(is_solve_paper(Wish((((("a",), False), (("a",), True)),), ({"a": 0},), lively=True),
                                       ("part", ring(7) & ring(8))))

    def test_of_one_form_only(self):
        for tables in samples(60, 17):
            wish = wish_of(tables)
            kept = can_be_kept(tables)
            if kept:
                for rows in itertools.chain.from_iterable(itertools.permutations([(at,) for at in range(min(3, len(wish)))], many)
                                                          for many in range(4)):
                    self.assertFalse(is_solve_paper(wish, ("rounds", rows)))
            else:
                for table in small_tables_of("ab", 1):
                    self.assertFalse(is_solve_paper(wish, ("part", part_of(table))))

    def test_wish_without_states(self):
        for value in (("rounds", ()), ("rounds", []), ("rounds", ((),)), ("rounds", ((0,),)), ("rounds", None), ("part", turn()),
                      ("rounds",), ("rounds", (), ()), ["rounds", ()], ("Rounds", ()), ("part", ()), ((), "rounds"), (), None):
            self.assertIs(is_solve_paper(EMPTY, value), are_same(value, ("rounds", ())) and isinstance(value[1], tuple), value)

    def test_values_of_every_kind(self):
        for wish in (two(), no(), dead(), EMPTY, turns()):
            for value in values_of_every_kind():
                self.assertIs(is_solve_paper(wish, value), False, value)
                for paper in (("part", value), ("rounds", value), ("rounds", (value,)), ("rounds", ((0,), value)),
                              ("rounds", ((value,),)), ("rounds", ((0, value),)), (value, ((0,),)), (value, turn()),
                              ("part", value, value), ["rounds", value], (value,), ("part", (value,))):
                    self.assertIs(is_solve_paper(wish, paper), right_solve_paper(tables_of(wish), paper, Part), paper)
        for value in values_of_every_kind():
            if not isinstance(value, Wish):
                for paper in (("rounds", ()), None, value):
                    with self.assertRaises(InvalidWish, msg=value):
                        is_solve_paper(value, paper)

    def test_nothing_is_changed(self):
        wish = two()
        paper = solve_paper(wish)
        rounds(wish), good_offers(wish, 0), is_solve_paper(wish, paper)
        best = narrowed(wish)
        best.steps[0].clear()
        best.goals[0][0][1].clear()
        paper[1].steps[0].clear()
        self.assertEqual([wish, best, solve_paper(wish)], [two(), two(), paper])


class Judges(unittest.TestCase):
    def test_lost_states_stay_lost(self):
        source = random.Random(18)
        for tables in samples(60, 19):
            left = set(source.sample(range(len(tables[0])), source.randint(1, len(tables[0]))))
            fewer = set(source.sample(sorted(left), source.randint(1, len(left))))
            self.assertLessEqual(set(plain_lost(tables, left)) & fewer, set(plain_lost(tables, fewer)))


if __name__ == "__main__":
    unittest.main()
