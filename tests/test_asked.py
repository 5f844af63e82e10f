"""What all functions about the needs of types do alike: [2], [3], and the exceptions of the interface."""

import copy
import inspect
import itertools
import unittest

from alike import Alike
from endlesskinds import endings, mends, needs
from endlesskinds.errors import Endless, NoTable, NoType, TooMany
from endlesskinds.tables import Table
from helpers import BOX, CELL, DEEP, DUO, ONE, PAIR, TWICE, TWO, anything, chain, pair_table, told

# The functions and the names of their arguments.
FUNCTIONS = [
    (endings.steps, "table"),
    (endings.verdict, "table kind"),
    (endings.shows_verdict, "table kind thing"),
    (needs.layers, "table kind"),
    (needs.needs, "table kind"),
    (needs.why, "table kind other"),
    (mends.mend, "table kind"),
    (mends.shows_mend, "table kind thing"),
]
OF_A_KIND = FUNCTIONS[1:]

BOXES = ("box", ("box", ("one",)))
RIGHT = {"table": pair_table(), "kind": BOXES, "other": ("one",), "thing": ("ends", 3)}


def arguments(names, **changed):
    """Right arguments for a function, but for what is changed."""
    values = {**RIGHT, **changed}
    return [values[name] for name in names.split()]


def no_kinds():
    """Values that are not closed types of the table of the right arguments."""
    return anything() + [
        "X", "Z", "one", "box", "box(one)", ("box", "X"), ("pair", ("one",), "X"), ("pair", "X", ("one",)),
        ("two",), ("box", ("two",)), ("sink", ("one",)), ("deep", ("one",)), ("one", ("one",)), ("box",), ("pair",),
        ("box", ("one",), ("one",)), ("pair", ("one",)), ("pair", ("one",), ("box",)), (("one",),),
        ["one"], ["box", ("one",)], ("box", ["one"]), ("box", ("pair", ("one",), ["one"])),
        (True,), ("one", True), ("box", True), ("box", 1), ("box", None), ("box", pair_table()),
        ONE, BOX, PAIR, chain(40, "X"), chain(40, ("two",)), chain(40, ["one"]), chain(6000, "X"),
    ]


class AlikeTest(Alike, unittest.TestCase):
    FUNCTIONS = FUNCTIONS
    RIGHT = RIGHT
    FILES = [(endings, "steps verdict shows_verdict"), (needs, "layers needs why"), (mends, "mend shows_mend")]
    MODIFIABLE = [("endless", [["deep", "X"]]), ("ends", [3]), ([["box", 0]],), [("box", 0)]]

    def test_kinds_of_results(self):
        for function, names in FUNCTIONS:
            expected = bool if names.endswith("thing") else tuple
            if function != needs.layers:
                self.assertIs(type(function(*arguments(names))), expected)
        self.assertIsNone(needs.why(pair_table(), ("one",), BOXES))
        self.assertTrue(inspect.isgenerator(needs.layers(pair_table(), BOXES)))


class WrongTest(unittest.TestCase):
    def test_no_type(self):
        for thing in no_kinds():
            for function, names in OF_A_KIND:
                self.assertIs(told(function, *arguments(names, kind=thing)), NoType)
            self.assertIs(told(needs.why, *arguments("table kind other", other=thing)), NoType)

    def test_the_table_counts(self):
        for table, kinds in [(Table(ONE), [("one",)]), (Table(TWO, BOX), [("two",), ("box", ("two",))]),
                             (Table(("box", (), (), ())), [("box",)])]:
            for kind in [("one",), ("two",), ("box", ("two",)), ("box", ("one",)), ("box",),
                         ("pair", ("one",), ("one",))]:
                for function, names in OF_A_KIND:
                    result = told(function, *arguments(names, table=table, kind=kind, other=kind))
                    self.assertIs(result is NoType, kind not in kinds)

    def test_no_table_ahead_of_no_type(self):
        for thing in [None, True, "table", [], pair_table().classes, chain(3)]:
            for kind in [None, 3, "X", ("two",), ["one"], pair_table()]:
                for function, names in OF_A_KIND:
                    values = arguments(names, table=thing, kind=kind, other=kind, thing=kind)
                    self.assertIs(told(function, *values), NoTable)

    def test_arguments_ahead_of_endless_and_too_many(self):
        table = pair_table() + DEEP
        for kind in [("deep", ("one",)), chain(70), ("deep", chain(70))]:
            for thing in [None, True, "X", "one", ["one"], ("two",), ("deep", "X"), ("deep",), table]:
                self.assertIs(told(needs.why, table, kind, thing), NoType)
            self.assertIs(told(needs.why, table.classes, kind, None), NoTable)
            self.assertIs(told(needs.why, table, None, kind), NoType)

    def test_endless_ahead_of_too_many(self):
        table = pair_table() + DEEP
        for function, names in [(needs.needs, "table kind"), (needs.why, "table kind other")]:
            self.assertIs(told(function, *arguments(names, table=table, kind=("deep", ("one",)))), Endless)
            self.assertIs(told(function, *arguments(names, table=table, kind=chain(70))), TooMany)
            self.assertIs(told(function, *arguments(names, table=table, kind=("deep", chain(70)))), Endless)

    def test_a_generator_raises_when_its_first_result_is_asked_for_at_the_latest(self):
        for table, kind, error in [(None, BOXES, NoTable), (pair_table(), "X", NoType), (None, None, NoTable)]:
            with self.assertRaises(error):
                next(needs.layers(table, kind))

    def test_what_is_no_class_of_the_others(self):
        self.assertEqual(len({NoTable, NoType, Endless, TooMany}), 4)
        with self.assertRaises(Endless) as caught:
            needs.needs(Table(ONE, BOX, DEEP), ("deep", ("one",)))
        self.assertEqual(caught.exception.cycle, (("deep", "X"),))
        self.assertIsInstance(caught.exception, ValueError)


class UnchangedTest(unittest.TestCase):
    def test_a_table_and_its_types_are_as_they_were(self):
        classes = (ONE, BOX, DEEP, DUO, TWICE)
        table = Table(*classes)
        for kind in [("one",), BOXES, ("deep", ("one",)), ("twice", BOXES), chain(70)]:
            before = copy.deepcopy(kind)
            for function, names in FUNCTIONS:
                told(function, *arguments(names, table=table, kind=kind))
                self.assertEqual(table.classes, classes)
                self.assertEqual(kind, before)

    def test_the_same_call_again_returns_the_same(self):
        table = Table(ONE, BOX, DEEP, DUO, TWICE)
        things = [("ends", 3), ("ends", 71), ("endless", (("deep", "X"),)),
                  (), (("deep", 0),), (("twice", 0), ("deep", 0))]
        for kind in [("one",), BOXES, ("deep", ("one",)), ("twice", BOXES), chain(70), None]:
            for thing in things:
                for function, names in FUNCTIONS:
                    values = arguments(names, table=table, kind=kind, thing=thing)
                    first = told(function, *values)
                    self.assertEqual(told(function, *values), first)
                    self.assertEqual(told(function, *copy.deepcopy(values)), first)

    def test_returned_values_may_be_passed_back(self):
        table = Table(ONE, BOX, DUO, TWICE, CELL)
        for layer in itertools.islice(needs.layers(table, ("twice", BOXES)), 11):
            for kind in layer:
                word, value = endings.verdict(table, kind)
                self.assertIs(endings.shows_verdict(table, kind, (word, value)), True)
                self.assertIs(endings.shows_verdict(table, kind, [word, value]), False)
                self.assertIs(endings.shows_verdict(table, kind, (word, value, kind)), False)
                self.assertIs(endings.shows_verdict(table, kind, (word, layer)), False)
                left_out = mends.mend(table, kind)
                self.assertIs(mends.shows_mend(table, kind, left_out), True)
                self.assertIs(mends.shows_mend(table, kind, left_out + (kind,)), False)
                self.assertIs(mends.shows_mend(table, kind, layer), False)
                self.assertIs(told(needs.why, table, kind, [kind]), NoType)
                self.assertIs(told(endings.verdict, table, layer), NoType)
                self.assertIs(told(endings.verdict, table, kind + ("X",)), NoType)
                self.assertIs(told(endings.verdict, layer, kind), NoTable)
        for kind in needs.needs(table, BOXES):
            self.assertEqual(needs.why(table, kind, kind), (kind,))
            self.assertIn(kind, needs.why(table, BOXES, kind))


if __name__ == "__main__":
    unittest.main()
