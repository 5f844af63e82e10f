"""The texts of types [12]."""

import re
import unittest

from endlesskinds.errors import NoText, NoType
from endlesskinds.types import is_type, read, text
from helpers import PAIR_TEXT, SIGNS, anything, chain, nested, pair_table

TEXTS = [
    ("X", "X"),
    ("A", "A"),
    ("Z", "Z"),
    (("one",), "one"),
    (("a",), "a"),
    (("abcdefgh",), "abcdefgh"),
    (("box", "X"), "box(X)"),
    (("box", ("one",)), "box(one)"),
    (("pair", "X", ("box", ("one",))), "pair(X, box(one))"),
    (("pair", ("box", ("one",)), "X"), "pair(box(one), X)"),
    (("pair", ("pair", "X", "Y"), ("pair", ("a",), ("b", "C"))), "pair(pair(X, Y), pair(a, b(C)))"),
    (("box", ("box", ("box", "X"))), "box(box(box(X)))"),
    (("pair", ("pair", ("pair", "X", "Y"), "Z"), "X"), "pair(pair(pair(X, Y), Z), X)"),
    (("pair", "X", ("pair", "X", ("pair", "X", "X"))), "pair(X, pair(X, pair(X, X)))"),
]

WRONG = [
    "", " ", "\n", "x1", "1", "XY", "Xx", "xX", "Box", "ninechars", "one ", " one", "one\n", "\none", "X ", " X",
    "one()", "X()", "X(Y)", "box( X)", "box(X )", "box (X)", "box(X) ", " box(X)", "box(X", "box(X))", "box((X))",
    "box X", "boxX", "(X)", "()", ")", "(", "box(", "box)", "box)X(", "box(X)(Y)", "box(X)Y", "box(X)one", "box[X]",
    "pair(X,Y)", "pair(X,  Y)", "pair(X , Y)", "pair(X Y)", "pair(X; Y)", "pair(X, Y,)", "pair(X, Y, )", "pair(X, )",
    "pair(, X)", "pair(X,, Y)", "pair(X, Y, Z)", "pair(X, Y), Z", "X, Y", "pair(X, Y", "pair(X,\nY)", "pair(X, Y)\n",
    "pair(X, ninechars)", "pair(ninechars, X)", "ninechars(X)", "pair(X, box(1))", "pair(X, box())", "pair(box(), X)",
    "pair(X, box(one)", "pair(X, box(one)))", "('one',)", "'X'", "box(@)", "b-x", "[", "box(X)\n", "a.b",
    "pair(X, box(X, Y, Z))", "pair(box(X, Y, Z), X)", "box(X,Y)", "box(X(Y))", "box(X()", "box_x", "pair(X, Y)(X, Y)",
]


def many_types():
    kinds = ["X", "Y", ("one",), ("two",)]
    kinds += [("box", kind) for kind in kinds]
    return kinds + [("pair", kind, other) for kind in kinds for other in kinds]


def plainly_text(told):
    """Whether a text is that of a type: class types of letters and names become letters until none is left."""
    plain = "(?:[A-Z]|[a-z]{1,8})"
    before = None
    while told != before:
        before = told
        told = re.sub(r"(?<![A-Za-z])[a-z]{1,8}\(" + plain + "(?:, " + plain + r")?\)", "X", told)
    return re.fullmatch(plain, told) is not None


class TextTest(unittest.TestCase):
    def test_texts_and_back(self):
        for kind, told in TEXTS:
            with self.subTest(told):
                self.assertEqual(text(kind), told)
                self.assertEqual(text(kind=kind), told)
                self.assertEqual(read(told), kind)
                self.assertEqual(read(text=told), kind)
                self.assertEqual(read(told), kind)

    def test_unlike_types_have_unlike_texts(self):
        texts = [text(kind) for kind in many_types()]
        self.assertEqual(len(set(texts)), len(texts))
        self.assertEqual([read(told) for told in texts], many_types())

    def test_no_type_has_a_text(self):
        for thing in anything():
            with self.assertRaises(NoType):
                text(thing)
            with self.assertRaises(NoType):
                text(kind=("pair", ("one",), thing))

    def test_no_other_text_is_read(self):
        for wrong in WRONG:
            with self.subTest(wrong):
                with self.assertRaises(NoText):
                    read(wrong)
                with self.assertRaises(NoText):
                    read(text=wrong)

    def test_no_other_value_is_read(self):
        others = [("one",), ("box", "X"), ["X"], ("X",), PAIR_TEXT, [], {"X": "X"}, pair_table()]
        for thing in anything() + others:
            with self.assertRaises(NoText):
                read(thing)

    def test_every_change_of_one_sign(self):
        for told in ["box(X)", "pair(X, box(one))", "pair(pair(A, b), c)", "a"]:
            for at in range(len(told) + 1):
                for put in ["", ", ", "()", "(X)", "(X, Y)"] + SIGNS:
                    self.check_exact(told[:at] + put + told[at:])
                    self.check_exact(told[:at] + put + told[at + 1:])

    def check_exact(self, told):
        if plainly_text(told):
            kind = read(told)
            self.assertIs(is_type(kind), True)
            self.assertEqual(text(kind), told)
        else:
            with self.assertRaises(NoText, msg=told):
                read(told)

    def test_names_end_after_eight_letters(self):
        for length in range(1, 20):
            name = "n" * length
            for told, kind in [(name, (name,)), (f"box({name})", ("box", (name,))), (f"{name}(X)", (name, "X"))]:
                if length <= 8:
                    self.assertEqual(read(told), kind)
                else:
                    with self.assertRaises(NoText):
                        read(told)

    def test_twenty_brackets(self):
        kind = chain(20, "X")
        told = "box(" * 20 + "X" + ")" * 20
        self.assertEqual(text(kind), told)
        self.assertEqual(read(told), kind)
        for wrong in [told[:-1], told + ")", "box(" * 20, "(" * 20, "(" * 2000, "box(" * 500, ")" * 2000, "X" * 2000]:
            with self.assertRaises(NoText):
                read(wrong)

    def test_returned_texts_of_any_size(self):
        kind = nested("X", 9, lambda part: ("pair", part, ("box", part)))
        self.assertEqual(read(text(kind)), kind)
        with self.assertRaises(NoText):
            read(text(kind) + text(kind))
        with self.assertRaises(NoText):
            read(text(kind)[:-1])
        deep = text(chain(5000))
        self.assertEqual(deep, "box(" * 5000 + "one" + ")" * 5000)
        self.assertEqual(text(read(deep)), deep)
        with self.assertRaises(NoText):
            read(deep + ")")
        with self.assertRaises(NoText):
            read(deep[:-1])


if __name__ == "__main__":
    unittest.main()
