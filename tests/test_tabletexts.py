"""The texts of tables [23]."""

import unittest

from endlesskinds.errors import NoText
from endlesskinds.tables import Table
from helpers import (
    BOX, CELL, ONE, PAIR, PAIR_TEXT, SIGNS, SINK, TWO, anything, bare, chain, letters_and_values, pair_table,
)

TEXTS = [
    ((ONE,), "class one\n"),
    ((TWO, ONE), "class two\nclass one\n"),
    ((ONE, BOX, PAIR), PAIR_TEXT),
    ((ONE, BOX), "class one\nclass box[out X]\n  reads first X\n"),
    ((SINK, ONE), "class sink[in X]\n  takes put X\nclass one\n"),
    ((ONE, CELL), "class one\nclass cell[same X]\n  holds at X\n"),
    ((SINK, bare("odd", ("sink", ("sink", ("odd",))))),
     "class sink[in X]\n  takes put X\nclass odd from sink(sink(odd))\n"),
    ((ONE, ("kind", (("Z", "in"), ("A", "same")), (), ())), "class one\nclass kind[in Z, same A]\n"),
    ((ONE, TWO, bare("low", ("one",), ("two",))), "class one\nclass two\nclass low from one, two\n"),
    ((ONE, TWO, bare("low", ("two",), ("two",))), "class one\nclass two\nclass low from two, two\n"),
    ((bare("from"), bare("class", ("from",)), ("reads", (), (("class",),), (("reads", "reads", ("from",)),))),
     "class from\nclass class from from\nclass reads from class\n  reads reads from\n"),
    ((ONE, BOX, PAIR, ("out", (("X", "out"),), (("pair", ("box", "X"), ("one",)), ("box", "X")), ())),
     PAIR_TEXT + "class out[out X] from pair(box(X), one), box(X)\n"),
    ((("a", (), (), (("b", "holds", ("a",)), ("a", "takes", ("a",)))),), "class a\n  holds b a\n  takes a a\n"),
]

# What is no text of a table: lines that are written in another way, or stand in another order.
WRONG = [
    "", "\n", "class one", "class one\n\n", "\nclass one\n", "class one\n ", "class one\n  ", "class one\n  \n",
    " class one\n", "class  one\n", "class one \n", "Class one\n", "classone\n", "class\n", "class \n", "one\n",
    "class One\n", "class ninechars\n", "class one()\n", "class one[]\n", "class one[\n", "class one]\n",
    "class one from\n", "class one from \n", "class one from  two\nclass two\n", "class one from two,\nclass two\n",
    "class one from two, \nclass two\n", "class one from two,two\nclass two\n", "class one from two  two\nclass two\n",
    "class one from two, two, two\nclass two\n", "class one, two\n", "class one\nclass one\n", "class one, from two\n",
    "class one\n  reads first one", "  reads first one\n", "  reads first one\nclass one\n",
    "class one\n reads first one\n", "class one\n   reads first one\n", "class one\nreads first one\n",
    "class one\n  reads  first one\n", "class one\n  reads first  one\n", "class one\n  reads first one \n",
    "class one\n  reads first\n", "class one\n  reads one\n", "class one\n  reads\n", "class one\n  first reads one\n",
    "class one\n  read first one\n", "class one\n  Reads first one\n", "class one\n  reads First one\n",
    "class one\n  reads first one one\n", "class one\n  reads first one, one\n", "class one\n  reads first one()\n",
    "class one\n  reads first ninechars\n", "class one\n  reads ninechars one\n", "class one\n  reads first\none\n",
    "class one\n  reads a one\n  reads a one\n", "class one\n  reads a one\n  reads b one\n  reads c one\n",
    "class one\n  reads a one\n\n  reads b one\n", "class one\n\n  reads a one\n", "class one  reads a one\n",
    "class one\nclass box[out X\n", "class one\nclass box[out X] \n", "class one\nclass box [out X]\n",
    "class one\nclass box[ out X]\n", "class one\nclass box[out X ]\n", "class one\nclass box[out  X]\n",
    "class one\nclass box[outX]\n", "class one\nclass box[X out]\n", "class one\nclass box[X]\n",
    "class one\nclass box[out]\n", "class one\nclass box[both X]\n", "class one\nclass box[out x]\n",
    "class one\nclass box[out XY]\n", "class one\nclass box[out X,]\n", "class one\nclass box[out X, ]\n",
    "class one\nclass box[out X,in Y]\n", "class one\nclass box[out X in Y]\n", "class one\nclass box[out X, in X]\n",
    "class one\nclass box[out X, in Y, in Z]\n", "class one\nclass box[out X][in Y]\n", "class one\nclass box[out X]]\n",
    "class one\nclass box[[out X]\n", "class one\nclass box(out X)\n", "class one\nclass box[out X, Y]\n",
    "class one\nclass box[out X]from one\n", "class one\nclass box[out X]  from one\n",
    "class one\nclass box from one[out X]\n", "class one\nclass box[out X] from  one\n",
    "class one\nclass box[out X] from X\n", "class one\nclass box[out X] from one, X\n",
    "class one\nclass box[out X] from one)\n", "class one\nclass box[out X] from (one)\n",
    "class one\nclass box[out X] from one from one\n", "class one\nclass box[out X] from one;\n",
]

# Texts of classes, each written right, that make no table.
NO_TABLES = [
    "class box[out X]\n",
    "class one\nclass two\nclass three\nclass four\nclass five\nclass six\n",
    "class one\nclass two\nclass one\n",
    "class one from two\n",
    "class one\n  reads first two\n",
    "class one\n  reads first X\n",
    "class one\nclass box[out X]\n  reads first Y\n",
    "class one\nclass box[out X]\n  reads first box\n",
    "class one from one\n",
    "class one from two\nclass two from one\n",
    "class one\nclass box[out X]\nclass bag[in X] from box(X)\n",
    "class one\nclass sink[in X]\nclass bag[out X] from sink(X)\n",
    "class one\nclass box[out X]\n  reads a box(box(box(box(box(box(box(X)))))))\n",
    "class one\nclass box[out X]\nclass low from box(box(box(box(box(box(one))))))\n",
]


class TableTextTest(unittest.TestCase):
    def test_texts_and_back(self):
        for classes, told in TEXTS:
            with self.subTest(told):
                table = Table(*classes)
                self.assertEqual(table.text(), told)
                self.assertEqual(table.text(), told)
                again = Table.read(told)
                self.assertIsInstance(again, Table)
                self.assertEqual(again, table)
                self.assertEqual(again.classes, classes)
                self.assertEqual(Table.read(text=told), table)

    def test_it_may_be_read_off_a_table(self):
        self.assertEqual(pair_table().read("class one\n"), Table(ONE))

    def test_the_largest_declared_types(self):
        kind = chain(6, "X")
        large = ("large", (("X", "out"),), (kind,), (("a", "reads", kind), ("b", "holds", kind)))
        table = Table(ONE, BOX, large)
        told = "box(box(box(box(box(box(X))))))"
        self.assertEqual(
            table.text(),
            "class one\nclass box[out X]\n  reads first X\n"
            f"class large[out X] from {told}\n  reads a {told}\n  holds b {told}\n",
        )
        self.assertEqual(Table.read(table.text()), table)

    def test_other_texts(self):
        for wrong in WRONG:
            with self.subTest(wrong):
                with self.assertRaises(NoText):
                    Table.read(wrong)
                with self.assertRaises(NoText):
                    Table.read(text=wrong)

    def test_classes_that_make_no_table(self):
        for wrong in NO_TABLES:
            with self.subTest(wrong), self.assertRaises(NoText):
                Table.read(wrong)

    def test_other_values(self):
        others = [("class one\n",), ["class one\n"], [PAIR_TEXT], ONE, (ONE,), pair_table(), Table(ONE), {"text": ""}]
        for thing in anything() + letters_and_values() + others:
            with self.assertRaises(NoText):
                Table.read(thing)

    def test_every_change_of_one_sign(self):
        for at in range(len(PAIR_TEXT) + 1):
            for put in ["", "  ", ", ", "one", "\n  "] + SIGNS:
                self.check_exact(PAIR_TEXT[:at] + put + PAIR_TEXT[at:])
                self.check_exact(PAIR_TEXT[:at] + put + PAIR_TEXT[at + 1:])

    def check_exact(self, told):
        try:
            table = Table.read(told)
        except NoText:
            self.assertNotEqual(told, PAIR_TEXT)
        else:
            self.assertEqual(table.text(), told)

    def test_every_line_left_out_or_repeated_or_moved(self):
        lines = PAIR_TEXT.splitlines(keepends=True)
        for at in range(len(lines)):
            self.check_exact("".join(lines[:at] + lines[at + 1:]))
            for to in range(len(lines)):
                self.check_exact("".join(lines[:to] + [lines[at]] + lines[to:]))

    def test_each_change_of_a_class_is_read(self):
        changes = [
            ("out X, same Y", "in X, same Y", False), ("out X, same Y", "same X, out Y", True),
            ("from box(X), one", "from box(X)", True), (" from box(X), one", "", True),
            ("from box(X), one", "from one, box(X)", True), ("holds second", "takes second", True),
            ("box(Y)", "pair(X, box(Y))", True), ("second", "first", False), ("class pair", "class p", True),
        ]
        for old, new, right in changes:
            told = PAIR_TEXT.replace(old, new)
            self.assertNotEqual(told, PAIR_TEXT)
            if right:
                self.assertEqual(Table.read(told).text(), told)
                self.assertNotEqual(Table.read(told), pair_table())
            else:
                with self.assertRaises(NoText):
                    Table.read(told)

    def test_long_texts(self):
        for wrong in ["class one\n" * 200, PAIR_TEXT * 10, "class one\n" + "  reads a one\n" * 100, "class " * 300,
                      "class one from " + "box(" * 400 + "\n", "class one[" + "out X, " * 250 + "]\n", "\n" * 2000]:
            with self.assertRaises(NoText):
                Table.read(wrong)

    def test_returned_texts_with_parts_added_or_left_out(self):
        told = pair_table().text()
        for wrong in [told + "\n", told + told, told[:-1], told[1:], told + " ", "\n" + told, told + "class one\n"]:
            with self.assertRaises(NoText):
                Table.read(wrong)
        self.assertEqual(Table.read(told + "class two\n"), pair_table() + TWO)


if __name__ == "__main__":
    unittest.main()
