"""The examples of the document, as they stand there."""

import doctest
import unittest

from whatparts.core.names import all_offers, all_words, is_offer, is_word
from whatparts.core.parts import Part

EXAMPLES = '''
>>> TURN = Part(({"put": 1}, {"get": 0}), (0,))

>>> [all_offers(("a",)), list(all_words(("a", "b"), 2)), is_offer((("a", "b"), True)), is_offer((("b", "a"), True)), is_word(("b", "b", "a"))]
[(((), False), ((), True), (('a',), False), (('a',), True)), [(), ('a',), ('b',), ('a', 'a'), ('a', 'b'), ('b', 'a'), ('b', 'b')], True, False, True]

>>> [TURN.offer(0), TURN.after(("put", "get")), ("get",) in TURN, TURN[("put",)], list(TURN.words(2)), str(TURN)]
[(('put',), True), 0, False, (('get',), False), [(), ('put',), ('put', 'get')], 'part of 2 states, 2 actions']
>>> LOOSE = Part(({"a": 2}, {"a": 1}, {"a": 2, "b": 1}), (1,))
>>> [LOOSE.least() == Part(({"a": 1}, {"a": 1, "b": 2}, {"a": 2}), (2,)), LOOSE.is_least, Part.of_words((("a", "b"), ("a",)), (("a",),)) == Part(({"a": 1}, {"b": 2}, {}), (1,))]
[True, False, True]
>>> [(TURN & Part(({"put": 0},))).steps, (TURN | Part(({"get": 0},), (0,)))[("put", "get", "put")], len(TURN.without(("put",))), TURN.without(("put",)).least() == Part(({},), (0,))]
[({'put': 1}, {}), (('get',), False), 2, True]
'''
BROUGHT = (Part, all_offers, all_words, is_offer, is_word)


class Examples(unittest.TestCase):
    def test_as_they_stand(self):
        brought = {value.__name__: value for value in BROUGHT}
        examples = doctest.DocTestParser().get_doctest(EXAMPLES, brought, "DOC.md", None, 0)
        told = []
        result = doctest.DocTestRunner(verbose=False).run(examples, out=told.append)
        self.assertEqual(result.failed, 0, "".join(told))
        self.assertEqual(result.attempted, 6)


if __name__ == "__main__":
    unittest.main()
