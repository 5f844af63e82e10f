"""What all functions of the interface that are asked about a table do alike: [2], [3]."""

import copy
import inspect

from endlesskinds.errors import NoTable
from helpers import nested, no_tables, told


class Alike:
    """Tests of some functions, for a test case that names them.

    FUNCTIONS has each with the names of its arguments, FILES the files with
    the names that they list, RIGHT an argument for each name, and MODIFIABLE
    values with lists in them.
    """

    FUNCTIONS = []
    FILES = []
    RIGHT = {}
    MODIFIABLE = []

    def arguments(self, names, **changed):
        values = {**self.RIGHT, **changed}
        return [values[name] for name in names.split()]

    def test_each_is_defined_in_its_file_with_these_arguments(self):
        for function, names in self.FUNCTIONS:
            self.assertEqual(list(inspect.signature(function).parameters), names.split())
        for file, listed in self.FILES:
            for name in listed.split():
                self.assertTrue(inspect.isfunction(getattr(file, name)))
                self.assertEqual(getattr(file, name).__module__, file.__name__)

    def test_by_position_and_by_name(self):
        for function, names in self.FUNCTIONS:
            values = self.arguments(names)
            expected = told(function, *values)
            named = dict(zip(names.split(), values))
            self.assertEqual(told(function, **named), expected)
            self.assertEqual(told(function, **dict(reversed(named.items()))), expected)
            self.assertEqual(told(function, values[0], **dict(list(named.items())[1:])), expected)
            self.assertNotIsInstance(expected, type)

    def test_no_table(self):
        for thing in no_tables():
            for function, names in self.FUNCTIONS:
                self.assertIs(told(function, *self.arguments(names, table=thing)), NoTable)

    def test_arguments_are_as_they_were(self):
        tree = nested(["X"], 9, lambda thing: [thing, {"a": (thing,)}])
        for thing in [["one"], {"X": ["one"]}, tree, *self.MODIFIABLE]:
            before = copy.deepcopy(thing)
            for function, names in self.FUNCTIONS:
                for name in names.split():
                    told(function, *self.arguments(names, **{name: thing}))
                    self.assertEqual(thing, before)
