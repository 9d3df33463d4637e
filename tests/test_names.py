"""Names, sets, words and offers, and the lists of all of them."""

import inspect
import itertools
import unittest

from tests.helpers import are_same, plain_words, right_name, right_number, right_offer, right_set, right_word
from tests.helpers import values_of_every_kind
from whatparts.core import names
from whatparts.core.names import MAX_ACTIONS, all_offers, all_words, is_name, is_offer, is_set, is_word
from whatparts.errors import InvalidNumber, InvalidOperation


class Interface(unittest.TestCase):
    def test_constant(self):
        self.assertEqual(MAX_ACTIONS, 4)

    def test_functions_stand_in_the_file(self):
        for name in ("is_name", "is_set", "is_word", "is_offer", "all_offers", "all_words"):
            self.assertEqual(vars(names)[name].__module__, "whatparts.core.names")


class Judged(unittest.TestCase):
    def check(self, function, right, wrong):
        for value in right:
            self.assertIs(function(value), True, value)
        for value in wrong:
            self.assertIs(function(value), False, value)

    def test_names(self):
        self.check(is_name, ("a", "z", "m", "az", "put", "abcdefg", "abcdefgh", "zzzzzzzz"), (
            "", "abcdefghi", "a" * 300, "A", "Put", "puT", "a1", "1", "a b", " a", "a ", " ", "a\n", "\n", "a_b",
            "a-b", "a.b", "`", "{", "@", "[", ("a",), ["a"], {"a": 0}, None, True, False, 0, 1))

    def test_sets(self):
        self.check(is_set, ((), ("a",), ("a", "b"), ("a", "ab", "b"), ("get", "put"), tuple("abcdefghij")), (
            ("b", "a"), ("a", "a"), ("a", "b", "b"), ("a", "c", "b"), ("b", "ab"), [], ["a"], ["a", "b"], "a", "ab",
            ("",), ("A",), ("a", "B"), ("a", "abcdefghi"), ("a", 1), (1,), (1, 2), (True,), (None,), (("a",),),
            ({},), (["a"],), {}, {"a": 0}, None, True, False, 0))

    def test_words(self):
        self.check(is_word, ((), ("a",), ("b", "a"), ("a", "a"), ("b", "b", "a"), ("put", "get") * 50), (
            [], ["a"], "a", "", ("",), ("A",), ("a", ""), ("a", "abcdefghi"), ("a", None), ("a", 0), (True,),
            (("a",),), (["a"],), ({"a": 0},), {}, {"a": "b"}, None, True, False, 0))

    def test_offers(self):
        self.check(is_offer, (((), True), ((), False), (("a",), True), (("a", "b"), False), (tuple("abcdef"), True)), (
            ((), 1), ((), 0), ((), None), ((), "True"), (True, ()), (("b", "a"), True), (("a", "a"), False),
            (["a"], True), ([], False), ("a", True), (("A",), True), ((1,), True), ((),), ((), True, False), (),
            [(), True], [("a",), False], (("a",), (True,)), {}, {(): True}, None, True, False, 0, "a!", "0"))

    def test_values_of_every_kind(self):
        for value in values_of_every_kind():
            self.assertIs(is_name(value), right_name(value), value)
            self.assertIs(is_set(value), right_set(value), value)
            self.assertIs(is_word(value), right_word(value), value)
            self.assertIs(is_offer(value), right_offer(value), value)

    def test_each_letter(self):
        for code in range(128):
            letter = chr(code)
            self.assertIs(is_name(letter), "a" <= letter <= "z", letter)
            self.assertIs(is_name("a" + letter + "a"), "a" <= letter <= "z", letter)
            self.assertIs(is_name("aaaaaaa" + letter), "a" <= letter <= "z", letter)


class Offers(unittest.TestCase):
    def test_one_action(self):
        self.assertEqual(all_offers(("a",)), (((), False), ((), True), (("a",), False), (("a",), True)))

    def test_no_action(self):
        self.assertEqual(all_offers(()), (((), False), ((), True)))

    def test_order(self):
        self.assertEqual([offer[0] for offer in all_offers(("a", "b"))[::2]], [(), ("a",), ("a", "b"), ("b",)])

    def test_all_of_them_ascending(self):
        for actions in ((), ("put",), ("get", "put"), ("a", "b", "c"), ("a", "b", "c", "d"), ("a", "aa", "ab", "b")):
            subsets = [found for many in range(5) for found in itertools.combinations(actions, many)]
            expected = sorted((subset, rests) for subset in subsets for rests in (True, False))
            offers = all_offers(actions)
            self.assertIsInstance(offers, tuple)
            self.assertEqual(list(offers), expected)
            self.assertEqual(len(offers), 2 ** (len(actions) + 1))
            for subset, rests in offers:
                self.assertIsInstance(subset, tuple)
                self.assertIsInstance(rests, bool)

    def test_wrong_actions(self):
        wrong = [value for value in values_of_every_kind() if not right_set(value) or len(value) > 4]
        for value in [*wrong, ("a", "b", "c", "d", "e"), ("b", "a"), ("a", "a"), ["a"], "a", "abcd"]:
            with self.assertRaises(InvalidOperation, msg=value):
                all_offers(value)


class Words(unittest.TestCase):
    def test_order(self):
        self.assertEqual(list(all_words(("a", "b"), 2)), [
            (), ("a",), ("b",), ("a", "a"), ("a", "b"), ("b", "a"), ("b", "b")])

    def test_all_of_them_in_order(self):
        for actions in ((), ("put",), ("get", "put"), ("a", "ab", "b"), ("a", "b", "c", "d")):
            for most in range(7):
                words = list(all_words(actions, most))
                self.assertEqual(words, plain_words(actions, most))
                self.assertEqual(words, sorted(words, key=lambda word: (len(word), word)))

    def test_none_and_six(self):
        self.assertEqual(list(all_words(("a", "b", "c", "d"), 0)), [()])
        self.assertEqual(list(all_words((), 6)), [()])
        self.assertEqual(len(list(all_words(("a",), 6))), 7)
        self.assertEqual(len(list(all_words(("a", "b", "c", "d"), 6))), (4 ** 7 - 1) // 3)

    def test_is_a_generator(self):
        words = all_words(("a",), 1)
        self.assertTrue(inspect.isgenerator(words))
        self.assertEqual([next(words), next(words), next(words, None)], [(), ("a",), None])

    def test_errors_come_with_the_first_value(self):
        for given, error in ((("b", "a"), InvalidOperation), (("a",), InvalidNumber)):
            words = all_words(given, 7)
            with self.assertRaises(error):
                next(words)

    def test_wrong_actions(self):
        wrong = [value for value in values_of_every_kind() if not right_set(value) or len(value) > 4]
        for value in [*wrong, ("a", "b", "c", "d", "e"), ("b", "a"), ("a", "a"), ["a"], "a"]:
            with self.assertRaises(InvalidOperation, msg=value):
                next(all_words(value, 2))

    def test_wrong_most(self):
        wrong = [value for value in values_of_every_kind() if not right_number(value, 0, 6)]
        for value in [*wrong, 7, -1, True, False, None]:
            with self.assertRaises(InvalidNumber, msg=value) as caught:
                next(all_words(("a",), value))
            self.assertTrue(are_same(caught.exception.value, value))

    def test_first_wrong_argument_decides(self):
        for actions in (("b", "a"), None, ["a"], ("a", "b", "c", "d", "e")):
            for most in (7, -1, True, None):
                with self.assertRaises(InvalidOperation):
                    next(all_words(actions, most))


if __name__ == "__main__":
    unittest.main()
