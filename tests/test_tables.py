"""Tables: what can be read of them, and what is made of them [22]; [2], [3] for these."""

import copy
import itertools
import unittest

from endlesskinds import tables
from endlesskinds.errors import KindError, Looped, NoClass, NoName, Turned, Unfit
from endlesskinds.tables import Table
from endlesskinds.types import fill
from helpers import (
    BOX, CELL, ONE, PAIR, SINK, TWO, anything, bare, chain, letters_and_values, nested, pair_table,
)


class ReadTest(unittest.TestCase):
    def test_classes_and_names_in_the_order_given(self):
        for classes in itertools.permutations([ONE, BOX, PAIR]):
            table = Table(*classes)
            self.assertEqual(table.classes, classes)
            self.assertIsInstance(table.classes, tuple)
            self.assertEqual(table.names, tuple(one[0] for one in classes))
            self.assertIsInstance(table.names, tuple)
            self.assertEqual(table.classes, classes)

    def test_len_and_repr(self):
        classes = [ONE, BOX, PAIR, SINK, CELL]
        for many in range(1, 6):
            table = Table(*classes[:many])
            self.assertEqual(len(table), many)
            self.assertEqual(repr(table), f"Table({many} classes)")
            self.assertIs(bool(table), True)
        self.assertEqual(repr(Table(ONE)), "Table(1 classes)")
        self.assertEqual(repr(pair_table()), "Table(3 classes)")

    def test_the_class_with_a_name(self):
        table = pair_table()
        self.assertEqual(table["one"], ONE)
        self.assertEqual(table["box"], BOX)
        self.assertEqual(table["pair"], PAIR)
        self.assertEqual(table["pair"], PAIR)

    def test_no_class_with_a_name(self):
        table = pair_table()
        for thing in anything() + letters_and_values() + ["on", "ones", "Box", "pai", " one", 2, -3, ONE, ("box",)]:
            if thing != "one":
                with self.assertRaises(NoName):
                    table[thing]

    def test_properties_are_not_assigned(self):
        table = pair_table()
        for name in ["classes", "names"]:
            with self.assertRaises(AttributeError):
                setattr(table, name, ())
        self.assertEqual(table, pair_table())

    def test_interface_stands_in_the_class(self):
        self.assertEqual(Table.__module__, "endlesskinds.tables")
        self.assertIs(tables.Table, Table)
        listed = ["classes", "names", "text", "read", "__init__", "__len__", "__contains__", "__eq__", "__repr__",
                  "__getitem__", "__add__", "__sub__"]
        for name in listed:
            self.assertIn(name, vars(Table))


class ContainsTest(unittest.TestCase):
    CLOSED = [
        ("one",),
        ("box", ("one",)),
        ("box", ("box", ("box", ("one",)))),
        ("pair", ("one",), ("one",)),
        ("pair", ("box", ("one",)), ("pair", ("one",), ("box", ("one",)))),
    ]

    OTHERS = [
        "X", "one", "box", ("box", "X"), ("pair", ("one",), "X"), ("pair", "X", ("one",)), ("box", ("box", "X")),
        ("two",), ("box", ("two",)), ("pair", ("one",), ("two",)), ("pair", ("two",), ("one",)),
        ("one", ("one",)), ("one", ("one",), ("one",)), ("box",), ("box", ("one",), ("one",)), ("pair",),
        ("pair", ("one",)), ("box", ("box",)), ("pair", ("box",), ("one",)), ("pair", ("one",), ("one", ("one",))),
        ["one"], ("box", ["one"]), [("one",)], (("one",),), ("pair", ("one",), ("one",), ("one",)),
        ONE, BOX, PAIR, "box(one)",
    ]

    def test_closed_types_of_the_table(self):
        table = pair_table()
        for kind in self.CLOSED:
            with self.subTest(kind=kind):
                self.assertIs(kind in table, True)
                self.assertIs(kind not in table, False)
                self.assertIs(kind in table, True)

    def test_other_values(self):
        table = pair_table()
        for thing in self.OTHERS + anything() + [table, pair_table(), "X", chain(9, "X")]:
            self.assertIs(thing in table, False)
            self.assertIs(("box", thing) in table, thing in self.CLOSED)
            self.assertIs(("pair", ("one",), thing) in table, False)

    def test_the_table_counts(self):
        small = Table(ONE)
        self.assertIs(("one",) in small, True)
        self.assertIs(("box", ("one",)) in small, False)
        swapped = Table(("box", (), (), ()), ("one", (("X", "out"),), (), ()))
        self.assertIs(("one", ("box",)) in swapped, True)
        self.assertIs(("box", ("one",)) in swapped, False)
        self.assertIs(("one",) in swapped, False)

    def test_types_of_any_size(self):
        table = pair_table()
        self.assertIs(chain(6000) in table, True)
        self.assertIs(chain(6000, "X") in table, False)
        self.assertIs(chain(6000, ("two",)) in table, False)
        self.assertIs(chain(6000, ["one"]) in table, False)
        wide = nested("X", 11, lambda kind: fill(("pair", "A", "B"), {"A": kind, "B": kind}))
        self.assertIs(wide in table, False)
        self.assertIs(fill(wide, {"X": ("box", ("one",))}) in table, True)
        self.assertIs(fill(wide, {"X": ("box", ("two",))}) in table, False)


class EqualTest(unittest.TestCase):
    def test_equal_if_the_classes_are(self):
        self.assertIs(pair_table() == pair_table(), True)
        self.assertIs(pair_table() != pair_table(), False)
        table = pair_table()
        self.assertIs(table == table, True)
        self.assertIs(table != table, False)
        self.assertIs(copy.deepcopy(table) == table, True)

    def test_the_order_counts(self):
        for classes in itertools.permutations([ONE, BOX, PAIR]):
            same = classes == (ONE, BOX, PAIR)
            self.assertIs(Table(*classes) == pair_table(), same)
            self.assertIs(Table(*classes) != pair_table(), not same)

    def test_each_part_counts(self):
        other_classes = [
            Table(ONE),
            Table(ONE, BOX),
            Table(ONE, BOX, PAIR, TWO),
            Table(ONE, BOX, ("pare",) + PAIR[1:]),
            Table(ONE, BOX, ("pair", (("X", "same"), ("Y", "same"))) + PAIR[2:]),
            Table(ONE, BOX, ("pair", (("X", "out"), ("Y", "out"))) + PAIR[2:]),
            Table(ONE, BOX, PAIR[:2] + (PAIR[2][:1], PAIR[3])),
            Table(ONE, BOX, PAIR[:2] + (PAIR[2][::-1], PAIR[3])),
            Table(ONE, BOX, PAIR[:3] + (PAIR[3][::-1],)),
            Table(ONE, BOX, PAIR[:3] + ((PAIR[3][0], ("second", "reads", ("box", "Y"))),)),
            Table(ONE, BOX, PAIR[:3] + ((PAIR[3][0], ("second", "holds", ("box", "X"))),)),
            Table(ONE, BOX, PAIR[:3] + ((PAIR[3][0], ("third", "holds", ("box", "Y"))),)),
        ]
        for other in other_classes:
            self.assertIs(other == pair_table(), False)
            self.assertIs(pair_table() == other, False)
            self.assertIs(pair_table() != other, True)

    def test_equal_to_nothing_else(self):
        table = pair_table()
        others = [(ONE, BOX, PAIR), [ONE, BOX, PAIR], table.names, table.text(), repr(table), 3, {"classes": ()}]
        for thing in anything() + others:
            if isinstance(thing, Table):
                continue
            self.assertIs(table == thing, False)
            self.assertIs(thing == table, False)
            self.assertIs(table != thing, True)
            self.assertIs(thing != table, True)


class AddTest(unittest.TestCase):
    def test_one_class_more(self):
        table = Table(ONE, BOX)
        more = table + PAIR
        self.assertIsInstance(more, Table)
        self.assertEqual(more.classes, (ONE, BOX, PAIR))
        self.assertEqual(more, pair_table())
        self.assertEqual(table + PAIR, more)
        self.assertEqual(table.classes, (ONE, BOX))
        self.assertEqual(len(table + PAIR + SINK + CELL), 5)

    def test_no_class(self):
        table = pair_table()
        for thing in anything() + letters_and_values() + [(TWO,), [TWO], list(TWO), TWO[:3], Table(TWO)]:
            with self.assertRaises(NoClass):
                table + thing

    def test_a_name_that_is_there(self):
        for one in [ONE, BOX, PAIR, bare("box"), ("one", (("X", "out"),), (), ()), bare("pair", ("nowhere",))]:
            with self.assertRaises(NoClass):
                pair_table() + one

    def test_five_classes_already(self):
        table = pair_table() + SINK + CELL
        for one in [TWO, bare("odd", ("nowhere",)), bare("odd", ("odd",)), None]:
            with self.assertRaises(NoClass):
                table + one
        self.assertEqual(table.classes, (ONE, BOX, PAIR, SINK, CELL))

    def test_what_does_not_fit(self):
        table = pair_table()
        with self.assertRaises(Unfit) as caught:
            table + ("odd", (("X", "in"),), (("odd", "X"), ("box", "X")), (("a", "reads", "Y"),))
        self.assertEqual(caught.exception.name, "odd")
        with self.assertRaises(Looped) as caught:
            table + ("odd", (("X", "in"),), (("odd", "X"), ("box", "X")), ())
        self.assertEqual(caught.exception.name, "odd")
        with self.assertRaises(Turned) as caught:
            table + ("odd", (("Y", "out"), ("X", "in")), (("box", "Y"), ("box", "X")), ())
        self.assertEqual((caught.exception.name, caught.exception.letter), ("odd", "X"))
        self.assertEqual(table, pair_table())


class SubtractTest(unittest.TestCase):
    def test_one_class_less(self):
        table = pair_table() + TWO
        less = table - "pair"
        self.assertIsInstance(less, Table)
        self.assertEqual(less.classes, (ONE, BOX, TWO))
        self.assertEqual(table - "pair", less)
        self.assertEqual(less - "one", Table(BOX, TWO))
        self.assertEqual(less - "box" - "one", Table(TWO))
        self.assertEqual(table.classes, (ONE, BOX, PAIR, TWO))

    def test_a_class_that_declares_itself(self):
        odd = ("odd", (), (), (("a", "holds", ("odd",)),))
        self.assertEqual(Table(odd, ONE) - "odd", Table(ONE))

    def test_no_name(self):
        things = anything() + letters_and_values() + ["on", "ones", "Pair", 0, -1, ONE, PAIR, ("one",), ["one"]]
        for table in [Table(bare("odd")), Table(BOX, bare("odd"))]:
            for thing in things:
                with self.assertRaises(NoName):
                    table - thing

    def test_no_class_without_parameters_is_left(self):
        for table in [Table(ONE), Table(ONE, SINK), Table(BOX, ONE, SINK)]:
            before = table.classes
            with self.assertRaises(NoClass):
                table - "one"
            self.assertEqual(table.classes, before)

    def test_no_class_ahead_of_unfit(self):
        with self.assertRaises(NoClass):
            pair_table() - "one"
        with self.assertRaises(NoClass):
            Table(ONE, ("low", (("X", "out"),), (("one",),), ())) - "one"

    def test_no_name_ahead_of_both(self):
        for name in ["nowhere", None, ["one"], ("one",)]:
            with self.assertRaises(NoName):
                Table(ONE) - name
            with self.assertRaises(NoName):
                pair_table() - name

    def test_the_first_class_that_lacks_it(self):
        with self.assertRaises(Unfit) as caught:
            pair_table() - "box"
        self.assertEqual(caught.exception.name, "pair")
        left = ("left", (), (), (("a", "reads", ("box", ("one",))),))
        right = bare("right", ("box", ("one",)))
        for classes in itertools.permutations([ONE, BOX, left, right]):
            names = [one[0] for one in classes]
            with self.assertRaises(Unfit) as caught:
                Table(*classes) - "box"
            self.assertEqual(caught.exception.name, min(["left", "right"], key=names.index))
        with self.assertRaises(Unfit) as caught:
            pair_table() + TWO - "one"
        self.assertEqual(caught.exception.name, "pair")


class UnchangedTest(unittest.TestCase):
    def test_a_table_does_not_change(self):
        table = pair_table()
        for use in [
            lambda: table + TWO, lambda: table + ONE, lambda: table + None, lambda: table - "pair",
            lambda: table - "box", lambda: table - 1, lambda: table["one"], lambda: table["two"], lambda: len(table),
            lambda: ("one",) in table, lambda: ["one"] in table, lambda: table == ["one"], lambda: repr(table),
            lambda: table.text(), lambda: Table.read(table.text()), lambda: Table.read("class"),
        ]:
            first = self.told(use)
            self.assertEqual(self.told(use), first)
            self.assertEqual(table.classes, (ONE, BOX, PAIR))
            self.assertEqual(table.names, ("one", "box", "pair"))

    def told(self, use):
        try:
            return use()
        except KindError as error:
            return type(error)

    def test_arguments_are_not_modified(self):
        values = [["one"], {"X": ["one"]}, [[[]]], {1: {2: []}}]
        for thing in values:
            before = copy.deepcopy(thing)
            for use in [lambda: Table(thing), lambda: Table(ONE, ("odd", thing, (), ())), lambda: pair_table() + thing,
                        lambda: pair_table() - thing, lambda: pair_table()[thing], lambda: thing in pair_table(),
                        lambda: pair_table() == thing, lambda: Table.read(thing)]:
                self.told(use)
                self.assertEqual(thing, before)


if __name__ == "__main__":
    unittest.main()
