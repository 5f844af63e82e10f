"""Which values are classes [20], and which classes make no table: NoClass [20], [21]."""

import itertools
import unittest

from endlesskinds.errors import KindError, Looped, NoClass, Turned, Unfit
from endlesskinds.tables import Table
from helpers import BOX, CELL, ONE, PAIR, SINK, TWO, anything, bare, letters_and_values, nested, pair_table

OUT = (("X", "out"),)
READ = (("first", "reads", "X"),)


def boxes(size):
    """A type of this size, with the letter X in it."""
    return nested("X", size, lambda kind: ("box", kind))


# Each is a class but for one single thing.
WRONG_CLASSES = {
    "a list": ["kind", OUT, (), ()],
    "three things": ("kind", OUT, ()),
    "five things": ("kind", OUT, (), (), ()),
    "no things": (),
    "no name": ("", OUT, (), ()),
    "a long name": ("ninechars", OUT, (), ()),
    "a capital name": ("Kind", OUT, (), ()),
    "a capital in a name": ("kinD", OUT, (), ()),
    "a name with a digit": ("kind1", OUT, (), ()),
    "a name with a blank": ("ki nd", OUT, (), ()),
    "a name that is a type": (("kind",), OUT, (), ()),
    "a number as a name": (1, OUT, (), ()),
    "None as a name": (None, OUT, (), ()),
    "a list as a name": (["kind"], OUT, (), ()),
    "parameters in a list": ("kind", [("X", "out")], (), ()),
    "a pair as parameters": ("kind", ("X", "out"), (), ()),
    "a dict as parameters": ("kind", {"X": "out"}, (), ()),
    "None as parameters": ("kind", None, (), ()),
    "a text as parameters": ("kind", "", (), ()),
    "three parameters": ("kind", (("X", "out"), ("Y", "out"), ("Z", "out")), (), ()),
    "a letter twice": ("kind", (("X", "out"), ("X", "out")), (), ()),
    "a letter twice, unlike": ("kind", (("X", "out"), ("X", "in")), (), ()),
    "a parameter in a list": ("kind", (["X", "out"],), (), ()),
    "a parameter that is a letter": ("kind", ("X",), (), ()),
    "a parameter that is a text of two": ("kind", ("Xo",), (), ()),
    "a parameter of one": ("kind", (("X",),), (), ()),
    "a parameter of three": ("kind", (("X", "out", "in"),), (), ()),
    "a parameter of none": ("kind", ((),), (), ()),
    "a small letter": ("kind", (("x", "out"),), (), ()),
    "two letters as one": ("kind", (("XY", "out"),), (), ()),
    "no letter": ("kind", (("", "out"),), (), ()),
    "a number as a letter": ("kind", ((1, "out"),), (), ()),
    "a class type as a letter": ("kind", ((("one",), "out"),), (), ()),
    "a parameter turned about": ("kind", (("out", "X"),), (), ()),
    "another variance": ("kind", (("X", "both"),), (), ()),
    "a capital variance": ("kind", (("X", "Out"),), (), ()),
    "a part of a variance": ("kind", (("X", "ou"),), (), ()),
    "no variance": ("kind", (("X", ""),), (), ()),
    "None as a variance": ("kind", (("X", None),), (), ()),
    "a sign as a variance": ("kind", (("X", "+"),), (), ()),
    "a list as a variance": ("kind", (("X", ["out"]),), (), ()),
    "a tuple as a variance": ("kind", (("X", ("out", "in", "same")),), (), ()),
    "the second parameter wrong": ("kind", (("X", "out"), ("Y", "")), (), ()),
    "parents in a list": ("kind", OUT, [("one",)], ()),
    "a class type as parents": ("kind", OUT, ("one",), ()),
    "a class type with an argument as parents": ("kind", OUT, ("box", "X"), ()),
    "None as parents": ("kind", OUT, None, ()),
    "a text as parents": ("kind", OUT, "", ()),
    "three parents": ("kind", OUT, (("one",), ("one",), ("one",)), ()),
    "a letter as a parent": ("kind", OUT, ("X",), ()),
    "a letter as the second parent": ("kind", OUT, (("one",), "X"), ()),
    "a parent in a list": ("kind", OUT, (["one"],), ()),
    "a parent that is no type": ("kind", OUT, (("box", "x"),), ()),
    "a parent with three arguments": ("kind", OUT, (("box", "X", "X", "X"),), ()),
    "a parent with a list in it": ("kind", OUT, (("box", ["one"]),), ()),
    "a parent with True in it": ("kind", OUT, (("box", True),), ()),
    "a parent of size 7": ("kind", OUT, (boxes(7),), ()),
    "a second parent of size 7": ("kind", OUT, (("one",), boxes(7)), ()),
    "a wide parent of size 7": ("kind", OUT, (("pair", ("pair", boxes(2), boxes(2)), ("one",)),), ()),
    "a large parent": ("kind", OUT, (boxes(3000),), ()),
    "members in a list": ("kind", OUT, (), [("first", "reads", "X")]),
    "a member as members": ("kind", OUT, (), ("first", "reads", "X")),
    "None as members": ("kind", OUT, (), None),
    "a text as members": ("kind", OUT, (), ""),
    "three members": ("kind", OUT, (), (("a", "reads", "X"), ("b", "reads", "X"), ("c", "reads", "X"))),
    "a member twice": ("kind", OUT, (), (("a", "reads", "X"), ("a", "reads", "X"))),
    "a member twice, unlike": ("kind", OUT, (), (("a", "reads", "X"), ("a", "reads", ("one",)))),
    "a member in a list": ("kind", OUT, (), (["a", "reads", "X"],)),
    "a member of two": ("kind", OUT, (), (("a", "reads"),)),
    "a member of four": ("kind", OUT, (), (("a", "reads", "X", "X"),)),
    "a capital member": ("kind", OUT, (), (("A", "reads", "X"),)),
    "a long member": ("kind", OUT, (), (("ninechars", "reads", "X"),)),
    "no member name": ("kind", OUT, (), (("", "reads", "X"),)),
    "a number as a member name": ("kind", OUT, (), ((1, "reads", "X"),)),
    "another way": ("kind", OUT, (), (("a", "writes", "X"),)),
    "a part of a way": ("kind", OUT, (), (("a", "read", "X"),)),
    "no way": ("kind", OUT, (), (("a", "", "X"),)),
    "None as a way": ("kind", OUT, (), (("a", None, "X"),)),
    "a list as a way": ("kind", OUT, (), (("a", ["reads"], "X"),)),
    "a variance as a way": ("kind", OUT, (), (("a", "out", "X"),)),
    "a member turned about": ("kind", OUT, (), (("reads", "a", "X"),)),
    "a member's type that is a name": ("kind", OUT, (), (("a", "reads", "one"),)),
    "a member's type that is a list": ("kind", OUT, (), (("a", "reads", ["one"]),)),
    "a member's type that is None": ("kind", OUT, (), (("a", "reads", None),)),
    "a member's type with False in it": ("kind", OUT, (), (("a", "reads", ("box", False)),)),
    "a member's type of size 7": ("kind", OUT, (), (("a", "reads", boxes(7)),)),
    "a second member's type of size 7": ("kind", OUT, (), (("a", "reads", "X"), ("b", "takes", boxes(7)))),
    "a member's wide type of size 7": ("kind", OUT, (), (("a", "holds", ("pair", boxes(3), boxes(3))),)),
    "a member's large type": ("kind", OUT, (), (("a", "reads", boxes(3000)),)),
    "the second member wrong": ("kind", OUT, (), (("a", "reads", "X"), ("b", "reads", "x"))),
}

# Each is a class that may stand beside ONE, BOX and PAIR.
RIGHT_CLASSES = [
    ("a", (), (), ()),
    ("abcdefgh", (), (), ()),
    ("kind", (("A", "out"), ("Z", "in")), (), ()),
    ("kind", (("Z", "same"), ("A", "same")), (), ()),
    ("kind", OUT, (("box", "X"),), READ),
    ("kind", OUT, (("box", "X"), ("box", "X")), ()),
    ("kind", OUT, (("box", "X"), ("box", ("one",))), ()),
    ("kind", OUT, (boxes(6),), ()),
    ("kind", OUT, (boxes(6), boxes(6)), ()),
    ("kind", OUT, (), (("a", "reads", boxes(6)), ("b", "reads", boxes(6)))),
    ("kind", OUT, (), (("a", "holds", ("pair", ("pair", boxes(2), boxes(2)), "X")),)),
    ("kind", OUT, (), (("a", "reads", "X"), ("b", "takes", "X"))),
    ("kind", (), (), (("first", "holds", ("one",)), ("abcdefgh", "takes", ("kind",)))),
    ("reads", (), (), (("reads", "reads", ("reads",)),)),
    ("out", (), (), (("out", "reads", ("out",)),)),
    ("kind", (), (("one",), ("one",)), ()),
]


class ClassTest(unittest.TestCase):
    def test_right_classes(self):
        for one in RIGHT_CLASSES:
            with self.subTest(one=one):
                self.assertEqual(Table(ONE, BOX, PAIR, one).classes, (ONE, BOX, PAIR, one))
                self.assertEqual(Table(one, PAIR, BOX, ONE).classes, (one, PAIR, BOX, ONE))
                self.assertEqual((pair_table() + one).classes, (ONE, BOX, PAIR, one))

    def test_every_variance_and_way(self):
        for variance in ["out", "in", "same"]:
            for way in ["reads", "takes", "holds"]:
                one = ("kind", (("X", variance),), (), (("a", way, "X"),))
                self.assertEqual(Table(ONE, one)["kind"], one)

    def test_one_wrong_thing(self):
        for why, one in WRONG_CLASSES.items():
            with self.subTest(why):
                self.check_no_class(one)

    def check_no_class(self, one):
        with self.assertRaises(NoClass):
            Table(ONE, BOX, PAIR, one)
        with self.assertRaises(NoClass):
            Table(one, ONE, BOX, PAIR)
        with self.assertRaises(NoClass):
            pair_table() + one

    def test_other_values(self):
        for thing in anything() + letters_and_values() + [(ONE,), [ONE], ONE[:3], ONE + ONE, ONE[1:]]:
            with self.assertRaises(NoClass):
                Table(thing)
            self.check_no_class(thing)

    def test_other_values_in_a_class(self):
        for thing in anything():
            if thing != ():
                self.check_no_class(("kind", thing, (), ()))
                self.check_no_class(("kind", (), thing, ()))
                self.check_no_class(("kind", (), (), thing))
            self.check_no_class((thing, (), (), ()))
            self.check_no_class(("kind", (thing,), (), ()))
            self.check_no_class(("kind", (("X", "out"), thing), (), ()))
            self.check_no_class(("kind", ((thing, "out"),), (), ()))
            self.check_no_class(("kind", (("X", thing),), (), ()))
            self.check_no_class(("kind", (), (thing,), ()))
            self.check_no_class(("kind", (), (("one",), thing), ()))
            self.check_no_class(("kind", (), (("box", thing),), ()))
            self.check_no_class(("kind", (), (), (thing,)))
            self.check_no_class(("kind", (), (), (("a", "reads", ("one",)), thing)))
            self.check_no_class(("kind", (), (), ((thing, "reads", ("one",)),)))
            self.check_no_class(("kind", (), (), (("a", thing, ("one",)),)))
            self.check_no_class(("kind", (), (), (("a", "reads", thing),)))
            self.check_no_class(("kind", (), (), (("a", "reads", ("box", thing)),)))

    def test_a_declared_type_of_any_size_may_be_refused(self):
        wide = nested("X", 13, lambda kind: ("pair", kind, kind))
        self.check_no_class(("kind", OUT, (wide,), ()))
        self.check_no_class(("kind", OUT, (), (("a", "reads", wide),)))


class NumberTest(unittest.TestCase):
    def test_one_to_five_classes(self):
        names = ["one", "two", "three", "four", "five", "six", "seven"]
        for length in range(8):
            classes = [bare(name) for name in names[:length]]
            if 1 <= length <= 5:
                self.assertEqual(Table(*classes).classes, tuple(classes))
            else:
                with self.assertRaises(NoClass):
                    Table(*classes)
        with self.assertRaises(NoClass):
            Table(*[ONE] * 500)

    def test_different_names(self):
        other = ("box", (), (), ())
        for classes in [(ONE, ONE), (ONE, BOX, ONE), (ONE, BOX, BOX), (ONE, BOX, other), (other, ONE, BOX)]:
            with self.assertRaises(NoClass):
                Table(*classes)

    def test_one_class_without_parameters(self):
        empty = ("none", (("X", "out"),), (), ())
        for classes in [(empty,), (BOX,), (BOX, empty), (BOX, SINK, CELL)]:
            with self.assertRaises(NoClass):
                Table(*classes)
            for at in range(len(classes) + 1):
                self.assertEqual(len(Table(*classes[:at], ONE, *classes[at:])), len(classes) + 1)

    def test_classes_in_one_tuple_or_list(self):
        with self.assertRaises(NoClass):
            Table((ONE, TWO))
        with self.assertRaises(NoClass):
            Table([ONE, TWO])
        with self.assertRaises(NoClass):
            Table(Table(ONE, TWO))


class OrderTest(unittest.TestCase):
    """NoClass ahead of Unfit, Unfit ahead of Looped, Looped ahead of Turned."""

    UNFIT = ("unfit", (), (("nowhere",),), ())
    LOOPED = ("looped", (), (("looped",),), ())
    TURNED = ("turned", (("X", "in"),), (("box", "X"),), ())

    def raised(self, *classes):
        try:
            Table(*classes)
        except KindError as error:
            return error
        return None

    def test_the_first_that_applies(self):
        wrong = ("wrong", (), ())
        ranks = [(wrong, NoClass), (self.UNFIT, Unfit), (self.LOOPED, Looped), (self.TURNED, Turned)]
        for many in range(1, 5):
            for chosen in itertools.combinations(ranks, many):
                self.check_first(chosen)

    def check_first(self, chosen):
        wanted = chosen[0][1]
        for rows in itertools.permutations(chosen):
            classes = [one for one, _ in rows]
            with self.subTest(classes=classes):
                self.assertIs(type(self.raised(BOX, *classes)), self.with_box_alone(wanted, classes))
                if len(classes) < 4:
                    self.assertIs(type(self.raised(ONE, BOX, *classes)), wanted)
                    self.assertIs(type(self.raised(*classes, ONE, BOX)), wanted)

    def with_box_alone(self, wanted, classes):
        """What is raised where no class without parameters may be left."""
        return wanted if any(one[1] == () for one in classes) else NoClass

    def test_other_reasons_for_no_class_come_ahead_too(self):
        for classes in [
            (self.UNFIT, self.UNFIT),
            (ONE, self.LOOPED, self.LOOPED),
            (BOX, self.TURNED),
            (BOX, ("kind", OUT, (("nowhere",),), ())),
            (ONE, TWO, BOX, SINK, CELL, self.UNFIT),
            (ONE, TWO, BOX, SINK, CELL, self.LOOPED),
            (ONE, TWO, BOX, SINK, CELL, self.TURNED),
            (self.UNFIT, ("kind", (), (), (("a", "reads", boxes(7)),))),
        ]:
            self.assertIs(type(self.raised(*classes)), NoClass)

    def test_fields_of_the_first_that_applies(self):
        self.assertEqual(self.raised(BOX, self.TURNED, self.LOOPED, self.UNFIT).name, "unfit")
        self.assertEqual(self.raised(ONE, BOX, self.TURNED, self.LOOPED).name, "looped")
        error = self.raised(ONE, BOX, self.TURNED)
        self.assertEqual((error.name, error.letter), ("turned", "X"))

    def test_one_class_with_all_three(self):
        one = ("all", (("X", "in"),), (("all", "X"), ("box", "X")), (("a", "reads", ("box", "Y")),))
        self.assertIs(type(self.raised(ONE, BOX, one)), Unfit)
        self.assertIs(type(self.raised(ONE, BOX, one[:3] + ((),))), Looped)
        self.assertIs(type(self.raised(ONE, BOX, one[:2] + ((("box", "X"),), ()))), Turned)


if __name__ == "__main__":
    unittest.main()
