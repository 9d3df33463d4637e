"""Texts: what is written, what is read, and the line that cannot stand there."""

import random
import re
import unittest

from tests.helpers import names_in, right_offer, right_word, ring, some_tables, turn, values_of_every_kind
from tests.joining import belt, joint_of, right_joint, some_joints, tables_of_joint
from tests.wishing import few, part_of, some_wishes, tables_of, turns, two, wish_of
from whatparts.core.parts import Part
from whatparts.errors import InvalidJoint, InvalidOperation, InvalidPart, InvalidWish, ParseError
from whatparts.glue.inner import filled, nested
from whatparts.glue.joints import Joint
from whatparts.text import formats
from whatparts.text.formats import read_joint, read_offer, read_part, read_wish, read_word
from whatparts.text.formats import write_joint, write_offer, write_part, write_wish, write_word
from whatparts.want.wishes import Wish

NAMES = ("write_word", "write_offer", "write_part", "write_wish", "write_joint",
         "read_word", "read_offer", "read_part", "read_wish", "read_joint")
NAME = "[a-z]{1,8}"
NUMBER = "(?:0|[1-9][0-9]{0,2})"
OFFER = rf"(?:0|{NAME}(?:\+{NAME})*)!?"
STEP = f"{NAME} {NUMBER}"
STEPS = f"(?:-|{STEP}(?:, {STEP})*)"
OFFERS = f"(?:-|{OFFER}(?:, {OFFER})*)"
MOVE = f"{NAME} {NUMBER}(?: {NUMBER})*"
MOVES = f"(?:-|{MOVE}(?:, {MOVE})*)"
SET = f"(?:-|{NAME}(?: {NAME})*)"
NEEDS = rf"(?:-|{NAME}\.{NAME}(?: {NAME}\.{NAME})*)"


def ascend(items):
    return all(one < other for one, other in zip(items, items[1:]))


def plain_offer(text):
    names = text.rstrip("!")
    return () if names == "0" else tuple(names.split("+")), text.endswith("!")


def plain_items(text, between):
    return [] if text == "-" else text.split(between)


def are_offers(text):
    """Whether offers of the right form ascend, and the actions in each of them."""
    offers = [plain_offer(item) for item in plain_items(text, ", ")]
    return ascend(offers) and all(ascend(names) for names, _ in offers)


def are_rows(text):
    """Whether steps or moves of the right form ascend, and the numbers in each of them."""
    rows = [item.split(" ") for item in plain_items(text, ", ")]
    return ascend([row[0] for row in rows]) and all(ascend([int(number) for number in row[1:]]) for row in rows)


def bad_line(kind, text):
    """The index of the first line that cannot stand there, by regular expressions; or None."""
    lines = text.split("\n")
    if kind in ("word", "offer"):
        found = re.fullmatch(SET if kind == "word" else OFFER, lines[0])
        if not found or kind == "offer" and not ascend(plain_offer(lines[0])[0]):
            return 0
        return 1 if len(lines) > 1 else None
    if lines[0] != kind:
        return 0
    judge = {"part": PartLines, "wish": WishLines, "joint": JointLines}[kind]()
    for at, line in enumerate(lines[1:]):
        if not judge.takes(line):
            return at + 1
    return None if judge.is_enough() else len(lines)


class PartLines:
    def __init__(self):
        self.many = 0

    def takes(self, line):
        found = re.fullmatch(rf"{self.many}[:!] ({STEPS})", line)
        self.many += 1
        return bool(found) and are_rows(found[1])

    def is_enough(self):
        return self.many > 0


class WishLines:
    def __init__(self):
        self.many = 0

    def takes(self, line):
        found = re.fullmatch(rf"{self.many}: ({OFFERS}) \| ({STEPS})", line)
        if found:
            self.many += 1
        elif self.many:
            found = re.fullmatch(rf"goal ({OFFERS}) \| ({MOVES})", line)
        return bool(found) and are_offers(found[1]) and are_rows(found[2])

    def is_enough(self):
        return True


class JointLines:
    def __init__(self):
        self.many = 0
        self.slot = self.action = ""

    def takes(self, line):
        found = re.fullmatch(rf"slot ({NAME}): ({SET})", line)
        if found and not self.many and found[1] > self.slot:
            self.slot = found[1]
            return ascend(plain_items(found[2], " "))
        found = re.fullmatch(rf"mode {self.many}(?: never|: ({SET}))", line)
        if found:
            self.many += 1
            self.action = ""
            return ascend(plain_items(found[1] or "-", " "))
        found = re.fullmatch(rf"({NAME}): ({NEEDS}) -> {NUMBER}", line)
        if found and self.many and found[1] > self.action:
            self.action = found[1]
            return ascend([item.split(".")[0] for item in plain_items(found[2], " ")])
        return False

    def is_enough(self):
        return self.many > 0


def read_by(kind):
    return {"word": read_word, "offer": read_offer, "part": read_part, "wish": read_wish, "joint": read_joint}[kind]


def invalid_of(kind):
    return {"part": InvalidPart, "wish": InvalidWish, "joint": InvalidJoint}.get(kind, ())


def some_texts():
    """Kinds and texts of words, offers, parts, wishes and joints."""
    words = [(), ("a",), ("b", "a", "b"), ("get", "put", "abcdefgh")]
    found = [("word", write_word(word)) for word in words]
    found += [("offer", write_offer(offer)) for offer in (((), False), ((), True), (("a", "b"), True), (("put",), False))]
    found += [("part", write_part(part_of(table))) for table in some_tables(12, seed=1)]
    found += [("wish", write_wish(wish_of(tables))) for tables in some_wishes(12, "abc", 2)]
    found += [("joint", write_joint(joint_of(tables))) for tables in some_joints(14, 3)]
    return found


class Interface(unittest.TestCase):
    def test_all_stands_where_it_is_listed(self):
        for name in NAMES:
            self.assertEqual(vars(formats)[name].__module__, "whatparts.text.formats")


class Written(unittest.TestCase):
    def test_words_and_offers(self):
        for word, text in (((), "-"), (("a",), "a"), (("b", "a"), "b a"), (("a", "a", "abcdefgh"), "a a abcdefgh")):
            self.assertEqual([write_word(word), read_word(text)], [text, word])
        for offer, text in ((((), False), "0"), (((), True), "0!"), ((("a",), False), "a"), ((("a",), True), "a!"),
                            ((("get", "put"), False), "get+put"), ((("a", "b", "c", "d", "e"), True), "a+b+c+d+e!")):
            self.assertEqual([write_offer(offer), read_offer(text)], [text, offer])

    def test_parts(self):
        for part, text in ((turn(), "part\n0! put 1\n1: get 0"), (Part(({},)), "part\n0: -"),
                           (Part(({"b": 1, "a": 0}, {}), (0, 1)), "part\n0! a 0, b 1\n1! -")):
            self.assertEqual([write_part(part), read_part(text)], [text, part])

    def test_wishes(self):
        for wish, text in ((few(), "wish\n0: 0!, a | a 0\ngoal 0! | a 0"), (Wish((), ()), "wish"),
                           (Wish(((), (((), False),)), ({}, {})), "wish\n0: - | -\n1: 0 | -"),
                           (turns(), "wish\n0: put! | put 1\n1: take | take 0"),
                           (two(), "wish\n0: l, r | l 0, r 0\ngoal l | r 0\ngoal r | l 1"),
                           (Wish.of((((("a", "b"), True),), ()), ({"a": 0, "b": 1}, {}),
                                    ((((), {}), ((), {"a": (0, 1), "b": (0,)})), (((), {}),))),
                            "wish\n0: a+b! | a 0, b 1\ngoal - | -\ngoal - | a 0 1, b 0\n1: - | -\ngoal - | -")):
            self.assertEqual([write_wish(wish), read_wish(text)], [text, wish])

    def test_joints(self):
        for joint, text in ((belt(), "joint\nslot left: get put\nslot right: take\nmode 0: left\nput: left.put -> 0\n"
                                     "take: left.get right.take -> 0"),
                            (Joint({"b": (), "a": ("x",)}, ({"go": ({}, 1)}, {}, {}), (None, (), ("a", "b"))),
                             "joint\nslot a: x\nslot b: -\nmode 0 never\ngo: - -> 1\nmode 1: -\nmode 2: a b"),
                            (Joint({"slot": ("mode",), "mode": ("goal",)}, (
                                {"mode": ({"slot": "mode"}, 0), "slot": ({"mode": "goal"}, 0)},), (("mode",),)),
                             "joint\nslot mode: goal\nslot slot: mode\nmode 0: mode\nmode: slot.mode -> 0\n"
                             "slot: mode.goal -> 0")):
            self.assertEqual([write_joint(joint), read_joint(text)], [text, joint])

    def test_read_again(self):
        for table in some_tables(100, seed=4):
            self.assertEqual(read_part(write_part(part_of(table))), part_of(table))
        for tables in some_wishes(150, "abcd", 5):
            self.assertEqual(tables_of(read_wish(write_wish(wish_of(tables)))), tables)
        for tables in some_joints(150, 6):
            joint = read_joint(write_joint(joint_of(tables)))
            self.assertEqual(tables_of_joint(joint), tables)
            self.assertTrue(right_joint(joint))

    def test_each_value_has_a_text_of_its_own(self):
        texts = [write_part(part_of(table)) for table in some_tables(100, seed=7)]
        tables = some_tables(100, seed=7)
        for one in range(100):
            for other in range(one):
                self.assertEqual(texts[one] == texts[other], part_of(tables[one]) == part_of(tables[other]))

    def test_values_beyond_the_bounds(self):
        long = ring(7) & ring(8)
        self.assertEqual(write_part(long).split("\n")[56], "55: a 0")
        with self.assertRaises(InvalidPart):
            read_part(write_part(long))
        five = few().lively().lively().lively().lively()
        self.assertEqual(write_wish(five), "wish\n0: 0!, a | a 0" + "".join(f"\ngoal 0! | a {at}" for at in range(5)))
        with self.assertRaises(InvalidWish):
            read_wish(write_wish(five))
        joint = filled(filled(belt(), "left", turn()), "right", Part(({"take": 0},)))
        self.assertEqual(write_joint(joint), "joint\nmode 0: -\nput: - -> 1\nmode 1 never\ntake: - -> 0")
        with self.assertRaises(InvalidJoint):
            read_joint(write_joint(joint))
        wide = nested(belt(), "right", Joint({"a": ("x",), "b": (), "c": ()}, ({"take": ({"a": "x"}, 0)},), (None,)))
        self.assertEqual(write_joint(wide).split("\n")[:5],
                         ["joint", "slot a: x", "slot b: -", "slot c: -", "slot left: get put"])
        with self.assertRaises(InvalidJoint):
            read_joint(write_joint(wide))

    def test_wrong(self):
        for value in values_of_every_kind():
            for function, is_right, error in ((write_word, right_word(value), InvalidOperation),
                                              (write_offer, right_offer(value), InvalidOperation),
                                              (write_part, isinstance(value, Part), InvalidPart),
                                              (write_wish, isinstance(value, Wish), InvalidWish),
                                              (write_joint, isinstance(value, Joint), InvalidJoint)):
                if is_right:
                    self.assertIsInstance(function(value), str)
                else:
                    with self.assertRaises(error, msg=value):
                        function(value)


class Bent(unittest.TestCase):
    def check(self, kind, text):
        """Whether a text is read, raises what the lines tell, or cannot be parsed; as the plain judge has it."""
        bad = bad_line(kind, text)
        try:
            value = read_by(kind)(text)
        except ParseError as error:
            self.assertIsInstance(bad, int, (kind, text))
            self.assertEqual(error.line, bad, (kind, text))
            return "parse"
        except invalid_of(kind):
            self.assertIsNone(bad, (kind, text))
            return "invalid"
        self.assertIsNone(bad, (kind, text))
        write = {"word": write_word, "offer": write_offer, "part": write_part, "wish": write_wish, "joint": write_joint}[kind]
        self.assertEqual(write(value), text)
        return "read"

    def test_at_one_place(self):
        found = {}
        signs = " abz019:!|+,.->\nA~"
        source = random.Random(8)
        for kind, text in some_texts():
            self.assertEqual(self.check(kind, text), "read")
            for at in range(len(text) + 1):
                bent = [text[:at] + text[at + 1:], text[:at] + source.choice(signs) + text[at:],
                        text[:at] + source.choice(signs) + text[at + 1:], text[:at] + text[at:at + 1] + text[at:],
                        text[:at], text[:at] + text[at + 1:at + 2] + text[at:at + 1] + text[at + 2:]]
                for other in bent:
                    outcome = self.check(kind, other)
                    found[kind, outcome] = found.get((kind, outcome), 0) + 1
        self.assertGreater(min(found[kind, "parse"] for kind in ("part", "wish", "joint")), 1000)
        self.assertGreater(min(found[kind, "invalid"] for kind in ("part", "wish", "joint")), 50)
        self.assertGreater(min(found[kind, "read"] for kind in ("part", "wish", "joint")), 200)

    def test_lines_in_other_places(self):
        for kind, text in some_texts():
            lines = text.split("\n")
            for at in range(len(lines)):
                for other in range(len(lines) + 1):
                    self.check(kind, "\n".join([*lines[:other], lines[at], *lines[other:]]))
                self.check(kind, "\n".join(lines[:at] + lines[at + 1:]))
                self.check(kind, "\n".join(lines[:at] + lines[at + 1:at + 2] + lines[at:at + 1] + lines[at + 2:]))

    def test_texts_of_other_kinds(self):
        for kind, text in some_texts():
            for other in ("word", "offer", "part", "wish", "joint"):
                self.check(other, text)

    def test_first_bad_line(self):
        for kind, text, line in (
                ("word", "", 0), ("word", "a\n", 1), ("word", "a\nb", 1), ("word", "a  b\nb", 0), ("word", "a b ", 0),
                ("word", " a", 0), ("word", "- a", 0), ("word", "--", 0), ("word", "a,b", 0), ("word", "abcdefghi", 0),
                ("word", "A", 0), ("offer", "", 0), ("offer", "-", 0), ("offer", "!", 0), ("offer", "0!!", 0), ("offer", "0+a", 0),
                ("offer", "a+0", 0), ("offer", "b+a", 0), ("offer", "a+a", 0), ("offer", "a+", 0), ("offer", "+a", 0),
                ("offer", "a +b", 0), ("offer", "a!+b", 0), ("offer", "a\n", 1), ("offer", "00", 0), ("offer", "!a", 0),
                ("part", "", 0), ("part", "part", 1), ("part", "part\n", 1), ("part", "Part\n0: -", 0), ("part", " part\n0: -", 0),
                ("part", "part\n0: -\n", 2), ("part", "part\n1: -", 1), ("part", "part\n0: -\n0: -", 2), ("part", "part\n0 -", 1),
                ("part", "part\n0:", 1), ("part", "part\n0: ", 1), ("part", "part\n0:-", 1), ("part", "part\n00: -", 1),
                ("part", "part\n0: put 1\n2: -", 2), ("part", "part\n0: b 0, a 0", 1), ("part", "part\n0: a 0, a 0", 1),
                ("part", "part\n0: a 0,b 0", 1), ("part", "part\n0: a 00", 1), ("part", "part\n0: a 01", 1),
                ("part", "part\n0: a 1000", 1), ("part", "part\n0: a -1", 1), ("part", "part\n0: a", 1), ("part", "part\n0: a 0,", 1),
                ("part", "part\n0: a 0, -", 1), ("part", "part\n0: -, a 0", 1), ("part", "part\n0: A 0", 1), ("part", "part\n0: a 0 0", 1),
                ("part", "part\n0: a 999\n1: a  0", 2), ("part", "part\n0:! -", 1), ("part", "part\n0 : -", 1),
                ("wish", "", 0), ("wish", "wish\n", 1), ("wish", "wish\ngoal - | -", 1), ("wish", "wish\n0: -", 1),
                ("wish", "wish\n0: - |", 1), ("wish", "wish\n0: - | - | -", 1), ("wish", "wish\n0! - | -", 1),
                ("wish", "wish\n0: 0, 0 | -", 1), ("wish", "wish\n0: 0!, 0 | -", 1), ("wish", "wish\n0: b, a | -", 1),
                ("wish", "wish\n0: b+a | -", 1), ("wish", "wish\n0: a | a 0\ngoal a | a", 2), ("wish", "wish\n0: a | a 0\ngoal a | a -", 2),
                ("wish", "wish\n0: a | a 0\ngoal a | a 1 0", 2), ("wish", "wish\n0: a | a 0\ngoal a | a 0 0", 2),
                ("wish", "wish\n0: a | a 0\ngoal a | a 0, a 1", 2), ("wish", "wish\n0: a | a 0 1", 1),
                ("wish", "wish\n0: a | a 0\ngoal: a | a 0", 2), ("wish", "wish\n0: a | a 0\ngoal b, a | -", 2),
                ("wish", "wish\n0: - | -\n0: - | -", 2), ("wish", "wish\n0: - | -\ngoal - | -\n2: - | -", 3),
                ("joint", "", 0), ("joint", "joint", 1), ("joint", "joint\nslot a: -", 2), ("joint", "joint\nmode 1: -", 1),
                ("joint", "joint\nslot b: -\nslot a: -\nmode 0: -", 2), ("joint", "joint\nslot a: -\nslot a: -\nmode 0: -", 2),
                ("joint", "joint\nslot a: b a\nmode 0: -", 1), ("joint", "joint\nslot a: a a\nmode 0: -", 1),
                ("joint", "joint\nslot a:\nmode 0: -", 1), ("joint", "joint\nslot a\nmode 0: -", 1), ("joint", "joint\ngo: - -> 0", 1),
                ("joint", "joint\nslot a: -\nmode 0: -\nslot b: -", 3), ("joint", "joint\nslot a: -\nmode 0: b a", 2),
                ("joint", "joint\nslot a: -\nmode 0: never", None), ("joint", "joint\nslot a: -\nmode 0  never", 2),
                ("joint", "joint\nslot a: -\nmode 0 Never", 2), ("joint", "joint\nslot a: -\nmode 0:", 2),
                ("joint", "joint\nslot a: -\nmode 0 never\nmode 0 never", 3), ("joint", "joint\nslot a: -\nmode 0: -\ngo: - 0", 3),
                ("joint", "joint\nslot a: -\nmode 0: -\ngo: - -> 00", 3), ("joint", "joint\nslot a: -\nmode 0: -\ngo: -> 0", 3),
                ("joint", "joint\nslot a: -\nmode 0: -\ngo: a -> 0", 3), ("joint", "joint\nslot a: -\nmode 0: -\ngo: a. -> 0", 3),
                ("joint", "joint\nslot a: -\nmode 0: -\ngo: b.x a.x -> 0", 3), ("joint", "joint\nslot a: -\nmode 0: -\ngo: a.x a.y -> 0", 3),
                ("joint", "joint\nslot a: -\nmode 0: -\ngo: a.x.y -> 0", 3), ("joint", "joint\nslot a: -\nmode 0: -\ngo: a.x,b.x -> 0", 3),
                ("joint", "joint\nslot a: -\nmode 0: -\ngo: - -> 0\ngo: - -> 0", 4), ("joint", "joint\nslot a: -\nmode 0: -\ngo: - -> 0\nga: - -> 0", 4),
                ("joint", "joint\nslot a: -\nmode 0: -\ngo: - -> 0\nmode 1: -\nga: - -> 0", None),
                ("joint", "joint\nslot a: -\nmode 0: -\ngo: - -> 0 -> 0", 3), ("joint", "joint\nslot a: -\nmode 0: -\n", 3)):
            self.assertEqual(bad_line(kind, text), line, (kind, text))
            self.check(kind, text)

    def test_judged_by_form_alone_first(self):
        # Line 1 tells what no part takes, but line 2 has no right form.
        for kind, text, line in (("part", "part\n0: a 7\n1: b", 2), ("wish", "wish\n0: a | b 3\n1:", 2),
                                 ("joint", "joint\nslot a: a b c d\nmode 0: b\ngo", 3)):
            with self.assertRaises(ParseError) as caught:
                read_by(kind)(text)
            self.assertEqual(caught.exception.line, line)

    def test_what_is_not_taken(self):
        many = "\n".join(f"{at}: -" for at in range(9))
        for kind, texts in (
                ("part", ("part\n0: a 1", "part\n0: a 999", "part\n" + many, "part\n0: a 0, b 0, c 0, d 0, e 0")),
                ("wish", ("wish\n0: a | -", "wish\n0: - | a 0", "wish\n0: a | a 1", "wish\n0: a | a 0\ngoal b | -",
                          "wish\n0: a | a 0\ngoal a | a 1", "wish\n0: a | a 0\ngoal a | b 0", "wish\n0: a | a 0" + "\ngoal - | -" * 5,
                          "wish\n" + "\n".join(f"{at}: - | -" for at in range(9)), "wish\n0: a+b+c+d+e | a 0, b 0, c 0, d 0, e 0",
                          "wish\n0: a | a 0\ngoal a | a 999")),
                ("joint", ("joint\nmode 0: -", "joint\nslot a: a b c d\nmode 0: -", "joint\nslot a: -\nmode 0: b",
                           "joint\nslot a: -\nmode 0: -\ngo: - -> 1", "joint\nslot a: -\nmode 0: -\ngo: a.x -> 0",
                           "joint\nslot a: x\nmode 0: -\ngo: b.x -> 0", "joint\nslot a: -\nmode 0: never",
                           "joint\nslot a: -\nslot b: -\nslot c: -\nslot d: -\nmode 0: -",
                           "joint\nslot a: -\n" + "\n".join(f"mode {at} never" for at in range(5)),
                           "joint\nslot a: -\nmode 0: -\n" + "\n".join(f"{name}: - -> 0" for name in "abcde")))):
            for text in texts:
                self.assertIsNone(bad_line(kind, text))
                with self.assertRaises(invalid_of(kind), msg=text) as caught:
                    read_by(kind)(text)
                self.assertNotIsInstance(caught.exception, ParseError)

    def test_numbers(self):
        for number in (*range(12), 99, 100, 101, 998, 999):
            self.assertEqual(self.check("part", f"part\n0: a {number}"), "read" if number == 0 else "invalid")
            for wrong in (f"0{number}", f"+{number}", f"{number} ", f"{number}.", f" {number}", f"{number}0000"):
                self.assertEqual(self.check("part", f"part\n0: a {wrong}"), "parse")
        with self.assertRaises(ParseError):
            read_part("part\n0: a \u00b2")

    def test_no_strings(self):
        for value in values_of_every_kind():
            for kind in ("word", "offer", "part", "wish", "joint"):
                if isinstance(value, str):
                    self.check(kind, value)
                else:
                    with self.assertRaises(ParseError, msg=value) as caught:
                        read_by(kind)(value)
                    self.assertIsNone(caught.exception.line)

    def test_names_in_what_is_read(self):
        self.assertEqual(names_in(read_part("part\n0: abcdefgh 0, b 0").steps), ("abcdefgh", "b"))
        with self.assertRaises(ParseError):
            read_part("part\n0: abcdefghi 0")


if __name__ == "__main__":
    unittest.main()
