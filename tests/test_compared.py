"""Wishes compared, and the parts that make the difference or have most words."""

import random
import unittest

from tests.helpers import are_alike_tables, first_words, lead, names_in, plain_words, ring, turn, values_of_every_kind
from tests.solving import can_be_kept, plain_good_offers, plain_limited, plain_narrowed, small_tables_of
from tests.test_solved import dead, one_by_one
from tests.wishing import LEFT, RIGHT, does_keep, few, part_of, picked_part, right_wish, some_wishes, table_of, tables_of
from tests.wishing import turns, two, wish_of
from whatparts.core.parts import Part
from whatparts.errors import InvalidOperation, InvalidWish, TooMany
from whatparts.miss import compared
from whatparts.miss.compared import MAX_CHASED, are_same, freest_part, full_wish, is_parting, is_within, least_wish
from whatparts.miss.compared import parting_part
from whatparts.miss.solved import find_part, narrowed
from whatparts.want.keeping import keeps
from whatparts.want.wishes import Wish, free_wish

NAMES = ("is_within", "are_same", "parting_part", "is_parting", "least_wish", "full_wish", "freest_part")
OF_TWO = (is_within, are_same, parting_part)
EMPTY = Wish((), ())
ALL = (("a", "b", "c"), False)
SMALL = small_tables_of("ab")


def is_open():
    """The wish OPEN of the document."""
    return few().without_goals()


def fewer(source, wish):
    """A wish with some offers fewer, and perhaps with other goals."""
    offers, steps, goals = wish
    kept = [tuple(offer for offer in row if source.random() < 0.85) or row for row in offers]
    made = plain_limited(wish, kept)
    if source.random() < 0.4:
        made = made[0], made[1], tuple(tuple((done[1:], moves) for done, moves in row) for row in made[2])
    return made


def pairs_of_wishes(many, seed, goals=1):
    """Pairs of tables of wishes, with some that lie within each other."""
    source = random.Random(seed)
    found = []
    for one, other in zip(some_wishes(many, "ab", seed, goals), some_wishes(many, "ab", seed + 1, goals)):
        both = tables_of(wish_of(one) & wish_of(other))
        found += [(one, other), (fewer(source, one), one), (one, fewer(source, one)), (both, one), (one, both),
                  (one, tables_of(wish_of(one).lively())), (one, one)]
    return found


def fits_bounds(tables):
    return len(tables[0]) <= 8 and all(len(row) <= 4 for row in tables[2])


class Interface(unittest.TestCase):
    def test_all_stands_where_it_is_listed(self):
        self.assertEqual(MAX_CHASED, 200)
        for name in NAMES:
            self.assertEqual(vars(compared)[name].__module__, "whatparts.miss.compared")


class Within(unittest.TestCase):
    def test_examples(self):
        self.assertEqual([is_within(few(), is_open()), is_within(is_open(), few())], [True, False])
        self.assertTrue(keeps(parting_part(is_open(), few()), is_open()))
        self.assertIs(is_parting(is_open(), few(), Part(({"a": 0},))), True)
        self.assertIs(are_same(turns(), turns().lively()), True)

    def check(self, one, other):
        """Whether the first wish is within the other one, as far as parts show it."""
        first, second = wish_of(one), wish_of(other)
        within = is_within(first, second)
        part = parting_part(first, second)
        self.assertEqual(part is None, within)
        if part is None:
            for table in SMALL[::5]:
                self.assertFalse(does_keep(table, one) and not does_keep(table, other), (one, other, table))
        else:
            self.assertTrue(does_keep(table_of(part), one) and not does_keep(table_of(part), other), (one, other))
            self.assertLessEqual(set(part.actions), set(names_in(one[1])))
            self.assertIs(is_parting(first, second, part), True)
        return within

    def test_with_goals(self):
        found = {True: 0, False: 0}
        for one, other in pairs_of_wishes(45, 1, 2):
            if fits_bounds(one) and fits_bounds(other):
                found[self.check(one, other)] += 1
        self.assertGreater(min(found.values()), 60)

    def test_without_goals(self):
        found = {True: 0, False: 0}
        for one, other in pairs_of_wishes(25, 3, 0):
            if fits_bounds(one) and fits_bounds(other):
                found[self.check(one, other)] += 1
        self.assertGreater(min(found.values()), 30)

    def test_goals_that_make_the_difference(self):
        # Wishes with the same offers and steps, and unlike goals: what refuses is no way out here.
        source = random.Random(5)
        found = {True: 0, False: 0}
        for one in some_wishes(60, "ab", 5, 2):
            goals = tuple(((tuple(offer for offer in row if source.random() < 0.5),
                            {name: (0,) for name in steps if source.random() < 0.9}),)
                          for row, steps in zip(one[0], one[1]))
            other = one[0], one[1], goals
            if can_be_kept(one):
                found[self.check(one, other)] += 1
        self.assertGreater(min(found.values()), 8)

    def test_wishes_that_no_part_keeps(self):
        never = Wish(((),), ({},))
        for one in (EMPTY, never, few() & Wish((((("a",), False),),), ({"a": 0},))):
            for other in (EMPTY, never, few(), two()):
                self.assertEqual([is_within(one, other), parting_part(one, other)], [True, None])
        for one in (few(), two()):
            for other in (EMPTY, never):
                self.assertIs(is_within(one, other), False)
                self.assertTrue(keeps(parting_part(one, other), one))
                self.assertEqual([are_same(one, other), are_same(other, one)], [False, False])
        self.assertEqual([are_same(EMPTY, never), are_same(never, EMPTY)], [True, True])

    def test_offers_that_are_no_good_ones_do_not_count(self):
        only = Wish(((LEFT,),), ({"l": 0},))
        self.assertTrue(is_within(dead(), only))
        self.assertTrue(are_same(dead(), only))
        # The second wish allows more, but no part does it.
        more = Wish(((LEFT, RIGHT), (RIGHT,)), ({"l": 0, "r": 1}, {"r": 1}))
        self.assertEqual([is_within(only, more), is_within(more, only)], [True, False])
        self.assertEqual(parting_part(more, only).steps[0], {"r": 1})

    def test_a_goal_behind_a_word(self):
        # What the first wish lets be done behind `l` for ever does not serve the goal behind `r` alone.
        rest = ((), True)
        one = Wish(((LEFT, RIGHT), (LEFT, (("l",), True)), (rest,)), ({"l": 1, "r": 2}, {"l": 1}, {}))
        other = one.lively()
        self.assertIs(is_within(one, other), False)
        part = parting_part(one, other)
        self.assertEqual(part.offer(0), LEFT)
        self.assertFalse(is_parting(one, other, Part(({"r": 1}, {}), (1,))))

    def test_several_goals_at_once(self):
        go, stop = (("a",), False), (("a",), True)
        free = Wish(((go, stop),), ({"a": 0},))
        for first, second, within in (((0, 1), (0, 1), True), ((0, 1), (1,), False), ((1,), (0,), False),
                                      ((0,), (1,), False), ((1,), (0, 1), True), ((0, 1), (0,), True)):
            # The first goal is done by going, the second one by stopping: only one that moves to both is always served.
            other = Wish.of(((go, stop),), ({"a": 0},), ((((go,), {"a": first}), ((stop,), {"a": second})),))
            self.check(tables_of(free), tables_of(other))
            self.assertIs(is_within(free, other), within, (first, second))

    def test_a_goal_that_each_way_serves(self):
        go, stop = (("a",), False), (("a",), True)
        free = Wish(((go, stop),), ({"a": 0},))
        wish = Wish.of(((go, stop), (go, stop)), ({"a": 1}, {"a": 0}), ((((go, stop), {}),), (((), {"a": (0,)}),)))
        self.assertTrue(is_within(free, wish))
        self.assertTrue(are_same(free, wish))

    def test_within_exactly_if_the_same_parts_keep_both(self):
        found = {True: 0, False: 0}
        for one, other in pairs_of_wishes(30, 6, 1):
            if fits_bounds(one) and fits_bounds(other):
                first, second = wish_of(one), wish_of(other)
                within = is_within(first, second)
                found[within] += 1
                self.assertEqual(are_same(first, first & second), within)
                self.assertTrue(is_within(first & second, second))
                self.assertEqual(are_same(first, second), within and is_within(second, first))
                self.assertTrue(are_same(first, narrowed(first)))
        self.assertGreater(min(found.values()), 30)

    def test_parts_with_actions_of_the_first_wish_alone(self):
        part = parting_part(free_wish(("a",)), free_wish(("b",)))
        self.assertEqual(part.actions, ("a",))
        self.assertTrue(is_within(free_wish(()), free_wish(("a", "b"))))


class Judged(unittest.TestCase):
    def test_parts_of_others(self):
        source = random.Random(7)
        found = {True: 0, False: 0}
        for one, other in pairs_of_wishes(25, 8, 1):
            if fits_bounds(one) and fits_bounds(other):
                for table in [picked_part(source, one) for _ in range(4)] + SMALL[::60]:
                    right = does_keep(table, one) and not does_keep(table, other)
                    found[right] += 1
                    self.assertIs(is_parting(wish_of(one), wish_of(other), part_of(table)), right)
        self.assertGreater(min(found.values()), 40)

    def test_values_of_every_kind(self):
        for value in values_of_every_kind():
            self.assertIs(is_parting(is_open(), few(), value), False, value)
            self.assertIs(is_parting(few(), EMPTY, value), False, value)
            self.assertIs(is_parting(EMPTY, few(), value), False, value)
        self.assertIs(is_parting(turns(), EMPTY, Part(({"put": 1}, {"take": 0}), (0,))), True)

    def test_it_raises_nothing_for_many_chases(self):
        one, other = many_chases(1, True)
        self.assertIs(is_parting(one, other, Part(({"a": 0, "b": 0, "c": 0},))), False)
        one, other = many_chases(1, False)
        self.assertIs(is_parting(one, other, Part(({"a": 0, "b": 0, "c": 0},))), True)


def many_chases(ahead, served):
    """Two wishes with 200 chases, and so many more: of ten states, five states and four goals.

    The state of the first wish moves by `a`, that of the other one by `b`, and the goal by `c`.
    """
    states = range(5 + ahead)
    one = Wish(((ALL,),) * len(states), tuple({"a": (at + 1 if at < ahead + 4 else ahead), "b": at if at >= ahead else at + 1,
                                               "c": at if at >= ahead else at + 1} for at in states))
    one = one & Wish(((ALL,),) * 2, tuple({"a": 1 - at, "b": at, "c": at} for at in range(2)))
    goals = tuple(((ALL,) if served and at == 3 else (), {"a": (at,), "b": (at,), "c": (min(at + 1, 3),)}) for at in range(4))
    other = Wish.of(((ALL,),) * 5, tuple({"a": at, "b": (at + 1) % 5, "c": at} for at in range(5)), (goals,) * 5)
    return one, other


def count_chases(one, other):
    """The most chases of a goal of a pair of two wishes, plainly, where all offers are good ones."""
    pairs = [(0, 0)]
    for p, q in pairs:
        pairs += [pair for pair in ((one.steps[p][name], other.steps[q][name]) for name in one.steps[p])
                  if pair not in pairs]
    counts = []
    for p, q in pairs:
        for goal in range(len(other.goals[q])):
            found = [(p, q, (goal,))]
            seen = set(found)
            for p2, q2, goals in found:
                rows = [other.goals[q2][at] for at in goals]
                for offer in one.offers[p2]:
                    if any(offer in done for done, _ in rows):
                        continue
                    for name in offer[0]:
                        moved = tuple(sorted({at for _, moves in rows for at in moves.get(name, ())}))
                        chase = one.steps[p2][name], other.steps[q2][name], moved
                        if moved and chase not in seen:
                            seen.add(chase)
                            found.append(chase)
            counts.append(len(found))
    return max(counts)


class Limits(unittest.TestCase):
    def test_two_hundred_and_one_more(self):
        for served in (True, False):
            one, other = many_chases(0, served)
            self.assertEqual([len(one), count_chases(one, other)], [10, 200])
            self.assertIs(is_within(one, other), served)
            self.assertIs(are_same(one, other), served)
            self.assertIs(parting_part(one, other) is None, served)
            one, other = many_chases(1, served)
            self.assertEqual([len(one), count_chases(one, other)], [11, 201])
            for function in OF_TWO:
                with self.assertRaises(TooMany) as caught:
                    function(one, other)
                self.assertEqual(caught.exception.limit, 200)

    def test_goals_that_move_to_none_are_no_chases(self):
        one, other = many_chases(0, False)
        goals = tuple(row[:3] + ((row[3][0], {"a": (3,), "b": (3,)}),) for row in other.goals)
        ending = Wish.of(other.offers, other.steps, goals)
        self.assertEqual(count_chases(one, ending), 200)
        self.assertIs(is_within(one, ending), False)
        self.assertTrue(is_parting(one, ending, parting_part(one, ending)))

    def test_what_comes_ahead_of_it(self):
        one, other = many_chases(1, False)
        never = one & Wish(((),), ({},))
        self.assertEqual([is_within(never, other), parting_part(never, other)], [True, None])
        more = Wish((one.offers[0] + ((("a", "b", "c"), True),),), ({"a": 0, "b": 0, "c": 0},))
        self.assertIs(is_within(more, other), False)
        self.assertIs(is_within(one, other & EMPTY), False)
        part = parting_part(one, other & EMPTY)
        self.assertTrue(keeps(part, one))

    def test_the_second_direction(self):
        one, other = many_chases(1, False)
        free = Wish(((ALL,),), ({"a": 0, "b": 0, "c": 0},))
        # Without goals the second one is within the first one; only then the other direction is tried.
        small = Wish.of(((ALL,),), ({"a": 0, "b": 0, "c": 0},), ((((ALL,), {}),),))
        self.assertTrue(is_within(other.without_goals(), small))
        with self.assertRaises(TooMany):
            is_within(one, other)
        unlike = Wish((((("a",), False),),), ({"a": 0},))
        self.assertIs(are_same(unlike, other), False)
        self.assertIs(is_within(free, unlike), False)
        self.assertIs(are_same(free, unlike), False)
        with self.assertRaises(TooMany):
            are_same(one & small, other)
        self.assertIs(are_same(other, unlike), False)
        # The first direction is not true, so the second one, which has too many chases, is not tried.
        served = many_chases(1, True)[1]
        wide = Wish.of(((ALL, (("a", "b", "c"), True)),) * 5, served.steps, served.goals)
        self.assertEqual([is_within(wide, one), are_same(wide, one)], [False, False])
        for function in OF_TWO:
            with self.assertRaises(TooMany):
                function(one, wide)

    def test_seven_goals(self):
        seven = one_by_one(7)
        self.assertIs(is_within(seven, EMPTY), False)
        for other in (EMPTY, Wish(((LEFT,),), ({"l": 0},))):
            with self.assertRaises(TooMany) as caught:
                parting_part(seven, other)
            self.assertEqual(caught.exception.limit, 6)
        self.assertIsNone(parting_part(seven, seven.without_goals()))
        part = parting_part(one_by_one(6), EMPTY)
        self.assertTrue(keeps(part, one_by_one(6)))

    def test_only_a_state_of_the_narrowed_wish_counts_though_not_on_the_way(self):
        # The part can come to differ without ever reaching the state with seven goals, and still it counts.
        rest, go = ((), True), (("a",), False)
        wish = Wish(((rest, go), (go, (("a",), True))), ({"a": 1}, {"a": 1}))
        for _ in range(7):
            wish = wish & Wish.of(((rest, go), (go, (("a",), True))), ({"a": 1}, {"a": 1}), ((), (((go,), {"a": (0,)}),)))
        self.assertEqual([len(row) for row in narrowed(wish).goals], [0, 7])
        for other in (EMPTY, Wish(((go,),), ({"a": 0},))):
            self.assertIs(is_within(wish, other), False)
            with self.assertRaises(TooMany):
                parting_part(wish, other)


class Least(unittest.TestCase):
    def test_examples(self):
        self.assertEqual(least_wish(dead()).offers, ((LEFT,),))
        self.assertEqual(least_wish(EMPTY), EMPTY)
        self.assertEqual(least_wish(Wish(((),), ({},))), EMPTY)

    def is_least(self, tables):
        """All states reached in the order of their first words, each two told apart by the offers behind some word."""
        offers, steps, _ = tables
        best = first_words(steps)
        self.assertEqual([sorted(best), [best[at] for at in range(len(best))]],
                         [list(range(len(offers))), sorted(best.values())])
        pairs = {(p, q) for p in range(len(offers)) for q in range(p)}
        same = {(p, q) for p, q in pairs if offers[p] == offers[q]}
        while True:
            kept = {(p, q) for p, q in same if all(
                steps[p][name] == steps[q][name] or (max(steps[p][name], steps[q][name]),
                                                     min(steps[p][name], steps[q][name])) in same for name in steps[p])}
            if kept == same:
                break
            same = kept
        self.assertEqual(same, set())

    def test_fewest_states_with_the_same_parts(self):
        smaller = 0
        for tables in some_wishes(120, "ab", 9, 0):
            source = random.Random(len(tables[0]))
            copies = tables[0] * 2 if len(tables[0]) <= 4 else tables[0]
            many = len(tables[0])
            steps = tuple({name: goal + many * source.randrange(len(copies) // many) for name, goal in row.items()}
                          for row in (tables[1] * 2)[:len(copies)])
            wish = Wish(copies, steps)
            made = least_wish(wish)
            self.assertFalse(made.has_goals)
            self.assertEqual(made.is_empty, not can_be_kept(tables))
            if not made.is_empty:
                self.assertTrue(right_wish(made))
                self.is_least(tables_of(made))
                self.assertEqual([plain_good_offers(tables_of(made)), least_wish(made)], [list(made.offers), made])
                smaller += len(made) < len(narrowed(wish))
            self.assertTrue(are_same(wish, made))
            for table in SMALL[::40]:
                self.assertEqual(does_keep(table, tables), keeps(part_of(table), made))
        self.assertGreater(smaller, 15)

    def test_equal_exactly_if_the_same_parts_keep_both(self):
        found = {True: 0, False: 0}
        for one, other in pairs_of_wishes(25, 10, 0):
            if fits_bounds(one) and fits_bounds(other):
                first, second = wish_of(one).without_goals(), wish_of(other).without_goals()
                same = are_same(first, second)
                found[same] += 1
                self.assertEqual(least_wish(first) == least_wish(second), same)
        self.assertGreater(min(found.values()), 30)

    def test_wrong(self):
        for value in values_of_every_kind():
            if not isinstance(value, Wish):
                with self.assertRaises(InvalidWish, msg=value):
                    least_wish(value)
        for wish in (few(), two(), Wish.of(((), ()), ({}, {}), ((), (((), {}),)))):
            with self.assertRaises(InvalidOperation):
                least_wish(wish)


class Full(unittest.TestCase):
    def test_examples(self):
        self.assertEqual(tables_of(full_wish(two())), (((),), ({},), ((((), {}), ((), {})),)))
        self.assertEqual(full_wish(EMPTY), EMPTY)
        self.assertEqual(full_wish(Wish(((),), ({},))), EMPTY)
        self.assertEqual(tables_of(full_wish(few())), ((((("a",), False),),), ({"a": 0},), ((((), {"a": (0,)}),),)))

    def test_against_plain_reckoning(self):
        for tables in some_wishes(150, "abc", 11, 3):
            best = plain_narrowed(tables)
            if not best[0]:
                self.assertTrue(full_wish(wish_of(tables)).is_empty)
                continue
            kept = [tuple(offer for offer in row if set(offer[0]) >= {name for had, _ in row for name in had}) for row in best[0]]
            self.assertEqual(tables_of(full_wish(wish_of(tables))), plain_limited(best, kept))

    def test_parts_with_all_words(self):
        # A part keeps it exactly if it keeps the wish and has all words of good offers, which are those of all parts.
        found = {True: 0, False: 0}
        for tables in some_wishes(120, "ab", 12, 1):
            if not can_be_kept(tables):
                continue
            best = plain_narrowed(tables)
            full = full_wish(wish_of(tables))
            words = [word for word in plain_words("ab", 5) if lead(best[1], word) is not None]
            for table in SMALL[::9]:
                right = does_keep(table, tables) and all(lead(table[0], word) is not None for word in words)
                found[right] += 1
                self.assertEqual(keeps(part_of(table), full), right)
        self.assertGreater(min(found.values()), 15)

    def test_freest_parts(self):
        found = {True: 0, False: 0}
        for tables in some_wishes(200, "ab", 13, 1):
            part = freest_part(wish_of(tables))
            self.assertEqual(part is None, not can_be_kept(tables_of(full_wish(wish_of(tables)))))
            found[part is None] += 1
            if part is not None:
                self.assertTrue(does_keep(table_of(part), tables))
                self.assertLessEqual(set(part.actions), set(names_in(tables[1])))
                best = plain_narrowed(tables)
                for word in plain_words("ab", 5):
                    self.assertEqual(word in part, lead(best[1], word) is not None)
        self.assertGreater(min(found.values()), 25)

    def test_examples_of_freest_parts(self):
        self.assertIsNone(freest_part(few()))
        self.assertTrue(are_alike_tables(table_of(freest_part(is_open())), (({"a": 0},), ()))
                        or are_alike_tables(table_of(freest_part(is_open())), (({"a": 0},), (0,))))
        self.assertTrue(are_alike_tables(table_of(freest_part(dead())), (({"l": 0},), ())))
        self.assertEqual([freest_part(EMPTY), freest_part(two())], [None, None])

    def test_exactly_if_offers_have_all_their_actions_in_one(self):
        found = {True: 0, False: 0}
        for tables in some_wishes(150, "abc", 14, 0):
            best = plain_narrowed(tables)
            if best[0]:
                right = all(any(set(offer[0]) >= set(one[0]) | set(other[0]) for offer in row)
                            for row in best[0] for one in row for other in row)
                found[right] += 1
                self.assertEqual(freest_part(wish_of(tables)) is not None, right)
        self.assertGreater(min(found.values()), 15)

    def test_six_and_seven_goals(self):
        rows = [((("a",), bool(at)),) for at in range(2)]
        wish = Wish((rows[0] + rows[1],), ({"a": 0},))
        for _ in range(6):
            wish = wish.lively()
        self.assertTrue(keeps(freest_part(wish), wish))
        with self.assertRaises(TooMany) as caught:
            freest_part(wish.lively())
        self.assertEqual(caught.exception.limit, 6)
        self.assertEqual(len(full_wish(wish.lively()).goals[0]), 7)
        # The full wish of one with seven goals may have no part, and then it is not too many.
        self.assertIsNone(freest_part(one_by_one(7)))

    def test_wrong(self):
        for value in values_of_every_kind():
            if not isinstance(value, Wish):
                for function in (full_wish, freest_part):
                    with self.assertRaises(InvalidWish, msg=value):
                        function(value)


class Wrong(unittest.TestCase):
    def test_first_error(self):
        for value in values_of_every_kind():
            if not isinstance(value, Wish):
                for function, more in ((is_within, ()), (are_same, ()), (parting_part, ()), (is_parting, (turn(),)),
                                       (is_parting, (None,))):
                    for wish in (few(), EMPTY):
                        with self.assertRaises(InvalidWish, msg=value):
                            function(value, wish, *more)
                        with self.assertRaises(InvalidWish, msg=value):
                            function(wish, value, *more)
                        with self.assertRaises(InvalidWish, msg=value):
                            function(value, value, *more)

    def test_nothing_is_changed(self):
        one, other = is_open(), few()
        part = parting_part(one, other)
        part.steps[0].clear()
        is_within(one, other), are_same(one, other), is_parting(one, other, part), least_wish(one)
        full_wish(other).goals[0][0][1].clear()
        freest_part(one)
        self.assertEqual([one, other, parting_part(one, other)], [is_open(), few(), part])
        self.assertEqual(find_part(other), find_part(few()))
        self.assertEqual(len(ring(3)), 3)


if __name__ == "__main__":
    unittest.main()
