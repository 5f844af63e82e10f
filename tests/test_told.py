"""What all functions about pairs, signs and members do alike: [2], [3], and the exceptions of the interface."""

import copy
import itertools
import unittest

from alike import Alike
from endlesskinds import members, signs, within
from endlesskinds.errors import Clash, Endless, NoTable, NoType, TooMany
from endlesskinds.tables import Table
from helpers import BOX, DEEP, ONE, PAIR, SINK, TWO, anything, bare, chain, pair_table, told

# The functions and the names of their arguments.
FUNCTIONS = [
    (within.ancestors, "table kind"),
    (within.answer, "table one other"),
    (within.reasons, "table one other"),
    (within.shows, "table one other thing"),
    (signs.faults, "table"),
    (signs.signs, "table"),
    (members.members, "table kind"),
    (members.misfits, "table"),
]
OF_A_KIND = [row for row in FUNCTIONS if " kind" in row[1]]
OF_A_PAIR = [row for row in FUNCTIONS if " one" in row[1]]

WIDE = ("wide", (("X", "out"),), (("box", ("box", ("wide", ("wide", "X")))),), ())
ODD = bare("odd", ("sink", ("sink", ("odd",))))
LEFT = ("left", (), (), (("at", "reads", ("one",)),))
RIGHT = ("right", (), (), (("at", "takes", ("one",)),))
BOTH = bare("both", ("left",), ("right",))

PAIRS = ("pair", ("box", "X"), ("one",))
RIGHT_ONES = {"table": pair_table(), "kind": PAIRS, "one": PAIRS, "other": ("box", ("box", "X")), "thing": None}


def arguments(names, **changed):
    """Right arguments for a function, but for what is changed."""
    values = {**RIGHT_ONES, **changed}
    return [values[name] for name in names.split()]


def no_open_kinds():
    """Values that are not types of the table of the right arguments, with whatever letters."""
    return anything() + [
        "x", "XY", "one", "box", "box(one)", "box(X)", " X", "X\n", "@", "[", "\n",
        ("two",), ("box", ("two",)), ("sink", "X"), ("deep", "X"), ("one", "X"), ("box",), ("pair",), ("pair", "X"),
        ("box", "X", "X"), ("box", "x"), ("box", "XY"), ("pair", "X", ("box",)), ("pair", ("one",), "one"),
        (("one",),), ["X"], ["one"], ["box", "X"], ("box", ["X"]), ("box", ["one"]), ("X",), ("X", "X"),
        (True,), ("one", True), ("box", True), ("box", 1), ("box", None), ("box", pair_table()), ("box", ()),
        ONE, BOX, PAIR, chain(40, "x"), chain(40, ("two",)), chain(40, ["one"]), chain(6000, "XY"),
    ]


class AlikeTest(Alike, unittest.TestCase):
    FUNCTIONS = FUNCTIONS
    RIGHT = RIGHT_ONES
    FILES = [(within, "ancestors answer reasons shows"), (signs, "faults signs"), (members, "members misfits")]
    MODIFIABLE = [["within", [["X", "X"]]], ("within", [("X", "X")]), ("open", (["X", "X"],)), ("box", ["X"])]

    def test_kinds_of_results(self):
        kinds = {within.answer: str, within.shows: bool}
        for function, names in FUNCTIONS:
            for changed in [{}, {"one": "X", "other": "Y"}, {"one": ("one",), "other": ("one",)}]:
                self.assertIs(type(function(*arguments(names, **changed))), kinds.get(function, tuple))
        self.assertIs(within.shows(pair_table(), "X", "X", ("within", (("X", "X"),))), True)


class WrongTest(unittest.TestCase):
    def test_no_type(self):
        for thing in no_open_kinds():
            for function, names in OF_A_KIND:
                self.assertIs(told(function, *arguments(names, kind=thing)), NoType)
            for function, names in OF_A_PAIR:
                self.assertIs(told(function, *arguments(names, one=thing)), NoType)
                self.assertIs(told(function, *arguments(names, other=thing)), NoType)
                self.assertIs(told(function, *arguments(names, one=thing, other=thing)), NoType)

    def test_letters_too_but_no_letter_itself_for_members(self):
        for letter in "ABCDEFGHIJKLMNOPQRSTUVWXYZ":
            for kind in [letter, ("box", letter), ("pair", letter, "X")]:
                for function, names in OF_A_KIND:
                    expected = function is members.members and kind == letter
                    self.assertIs(told(function, *arguments(names, kind=kind)) is NoType, expected)
                for function, names in OF_A_PAIR:
                    self.assertIsNot(told(function, *arguments(names, one=kind, other=letter)), NoType)

    def test_the_table_counts(self):
        for table, kinds in [(Table(ONE), [("one",)]), (Table(TWO, BOX), [("two",), ("box", "Z"), ("box", ("two",))]),
                             (Table(("box", (), (), ())), [("box",)])]:
            for kind in [("one",), ("two",), ("box", "Z"), ("box", ("two",)), ("box", ("one",)), ("box",),
                         ("pair", ("one",), ("one",))]:
                for function, names in OF_A_KIND + OF_A_PAIR:
                    values = arguments(names, table=table, kind=kind, one=kind, other=kind)
                    self.assertIs(told(function, *values) is NoType, kind not in kinds)

    def test_no_table_ahead_of_all(self):
        for thing in [None, True, "table", [], pair_table().classes, (WIDE, BOTH), chain(3)]:
            for kind in [None, 3, "x", ("two",), ["one"], pair_table()]:
                for function, names in FUNCTIONS:
                    values = arguments(names, table=thing, kind=kind, one=kind, other=kind)
                    self.assertIs(told(function, *values), NoTable)

    def test_no_type_ahead_of_endless_and_too_many(self):
        table = Table(ONE, BOX, WIDE)
        for kind, error in [(("wide", "X"), Endless), (chain(500), TooMany), (chain(500, ("wide", "X")), Endless)]:
            for function, names in OF_A_PAIR:
                self.assertIs(told(function, *arguments(names, table=table, one=kind, other=kind)), error)
                for thing in [None, True, "x", "one", ["one"], ("two",), ("wide",), table]:
                    self.assertIs(told(function, *arguments(names, table=table, one=kind, other=thing)), NoType)
                    self.assertIs(told(function, *arguments(names, table=table, one=thing, other=kind)), NoType)

    def test_any_thing_does_not_keep_endless_and_too_many(self):
        table = Table(ONE, BOX, WIDE)
        for thing in anything():
            self.assertIs(told(within.shows, table, ("wide", "X"), "X", thing), Endless)
            self.assertIs(told(within.shows, table, chain(500), chain(500), thing), TooMany)

    def test_no_type_ahead_of_clash(self):
        table = Table(ONE, LEFT, RIGHT, BOTH)
        self.assertIs(told(members.members, table, ("both",)), Clash)
        for thing in [None, True, "X", "both", ["both"], ("both", "X"), ("two",), table]:
            self.assertIs(told(members.members, table, thing), NoType)

    def test_clash_ahead_of_endless(self):
        wide = WIDE[:3] + ((("at", "reads", "X"),),)
        both = bare("both", ("wide", ("one",)), ("wide", ("both",)))
        self.assertIs(told(members.misfits, Table(ONE, BOX, wide, both)), Clash)
        self.assertIs(told(members.misfits, Table(ONE, BOX, wide)), Endless)

    def test_faults_and_signs_of_any_table(self):
        for table in [Table(ONE, LEFT, RIGHT, BOTH), Table(ONE, BOX, WIDE), Table(ONE, BOX, DEEP)]:
            for function in [signs.faults, signs.signs]:
                self.assertIsInstance(function(table), tuple)


class UnchangedTest(unittest.TestCase):
    THINGS = [None, ("within", (("X", "X"),)), ("open", (("X", "X"),)), ("not", ()), ("apart", (("X", "Y"),))]

    def test_a_table_and_its_types_are_as_they_were(self):
        for classes in [(ONE, BOX, PAIR, SINK), (SINK, ODD), (ONE, BOX, WIDE), (ONE, LEFT, RIGHT, BOTH, BOX)]:
            table = Table(*classes)
            kinds = [(one[0], *["X", "Y"][:len(one[1])]) for one in classes]
            for one, other in itertools.product(kinds, kinds):
                before = copy.deepcopy((one, other))
                for function, names in FUNCTIONS:
                    told(function, *arguments(names, table=table, kind=one, one=one, other=other))
                    self.assertEqual(table.classes, classes)
                    self.assertEqual((one, other), before)

    def test_the_same_call_again_returns_the_same(self):
        for classes in [(ONE, BOX, PAIR, SINK), (SINK, ODD), (ONE, BOX, WIDE), (ONE, LEFT, RIGHT, BOTH, BOX)]:
            table = Table(*classes)
            kinds = [(one[0], *["X", "Y"][:len(one[1])]) for one in classes] + ["X", None]
            for one, other, thing in itertools.product(kinds, kinds, self.THINGS):
                for function, names in FUNCTIONS:
                    values = arguments(names, table=table, kind=one, one=one, other=other, thing=thing)
                    first = told(function, *values)
                    self.assertEqual(told(function, *values), first)
                    self.assertEqual(told(function, *copy.deepcopy(values)), first)

    def test_returned_values_may_be_passed_back(self):
        table = pair_table() + SINK
        for kind in within.ancestors(table, ("pair", ("sink", "X"), ("sink", "Y"))):
            self.assertIn(kind, within.ancestors(table, kind))
            self.assertIs(told(within.ancestors, table, kind + (kind,)), NoType)
            self.assertIs(told(within.ancestors, table, within.ancestors(table, kind)), NoType)
            self.assertIs(told(members.members, table, members.members(table, kind)), NoType)
            self.assertIs(told(within.answer, table, kind, within.answer(table, kind, kind)), NoType)
            self.assertIs(told(within.answer, within.ancestors(table, kind), kind, kind), NoTable)
            for name, way, declared in members.members(table, kind):
                self.assertEqual(within.answer(table, declared, declared), "within")
        for found in [signs.signs(table), signs.faults(table), members.misfits(table)]:
            self.assertIs(told(signs.signs, found), NoTable)


if __name__ == "__main__":
    unittest.main()
