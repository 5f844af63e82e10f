"""Types, their measures and what fills them: [10], [11], and [2], [3] for these."""

import copy
import itertools
import unittest

from endlesskinds import types
from endlesskinds.errors import NoType, NoValues
from endlesskinds.types import depth, fill, is_type, size
from helpers import SIGNS, anything, chain, pair_table

# A type, its size and its depth.
MEASURES = [
    ("X", 0, 0),
    ("A", 0, 0),
    ("Z", 0, 0),
    (("one",), 1, 1),
    (("a",), 1, 1),
    (("abcdefgh",), 1, 1),
    (("z", "Z"), 1, 1),
    (("box", "X"), 1, 1),
    (("box", ("one",)), 2, 2),
    (("pair", "X", "X"), 1, 1),
    (("pair", "X", ("box", ("one",))), 3, 3),
    (("pair", ("box", ("one",)), "X"), 3, 3),
    (("pair", ("box", "X"), ("pair", ("one",), ("two",))), 5, 3),
    (("pair", ("pair", "X", ("box", "Y")), ("pair", ("one",), ("one",))), 6, 3),
    (("box", ("box", ("box", ("box", "X")))), 4, 4),
]


def plainly_type(thing):
    if isinstance(thing, str):
        return thing in list("ABCDEFGHIJKLMNOPQRSTUVWXYZ")
    if not isinstance(thing, tuple) or len(thing) not in (1, 2, 3):
        return False
    name = thing[0]
    if not isinstance(name, str) or len(name) not in range(1, 9):
        return False
    if [sign for sign in name if sign not in "abcdefghijklmnopqrstuvwxyz"]:
        return False
    return all(plainly_type(argument) for argument in thing[1:])


class TypeTest(unittest.TestCase):
    def test_types(self):
        for kind, _, _ in MEASURES:
            with self.subTest(kind=kind):
                self.assertIs(is_type(kind), True)
                self.assertIs(is_type(thing=kind), True)
                self.assertIs(is_type(kind), True)

    def test_every_letter_and_no_other_sign(self):
        for sign in SIGNS:
            self.assertIs(is_type(sign), "A" <= sign <= "Z", sign)
            self.assertIs(is_type((sign,)), "a" <= sign <= "z", sign)
            self.assertIs(is_type(("a" + sign,)), "a" <= sign <= "z", sign)
            self.assertIs(is_type((sign + "a",)), "a" <= sign <= "z", sign)

    def test_names_have_one_to_eight_letters(self):
        for length in range(12):
            self.assertIs(is_type(("n" * length,)), 1 <= length <= 8)
            self.assertIs(is_type(("box", ("n" * length, "X"))), 1 <= length <= 8)

    def test_none_to_two_arguments(self):
        for length in range(6):
            self.assertIs(is_type(("box",) + ("X",) * length), length <= 2)

    def test_other_values_are_no_types(self):
        for thing in anything():
            self.assertIs(is_type(thing), False)
            self.assertIs(is_type(("box", thing)), False)
            self.assertIs(is_type(("pair", thing, "X")), False)
            self.assertIs(is_type(("pair", "X", thing)), False)
            self.assertIs(is_type(("pair", ("one",), ("box", thing))), False)
            self.assertIs(is_type((thing, "X")), False)

    def test_small_values_one_by_one(self):
        small = ["X", "one", "", 1, True, None, ("one",), ["one"], (), ("box", "X"), ("box", "one"), {"X": "X"}]
        for length in range(5):
            for thing in itertools.product(small, repeat=length):
                self.assertIs(is_type(thing), plainly_type(thing), thing)
                self.assertIs(is_type(list(thing)), False)

    def test_nothing_but_a_type_is_measured(self):
        for function in [size, depth]:
            for thing in anything():
                with self.assertRaises(NoType):
                    function(thing)
                with self.assertRaises(NoType):
                    function(kind=("box", thing))

    def test_size_and_depth(self):
        for kind, names, deep in MEASURES:
            with self.subTest(kind=kind):
                for measure, told in [(size, names), (depth, deep)]:
                    self.assertEqual(measure(kind), told)
                    self.assertEqual(measure(kind=kind), told)
                    self.assertIs(isinstance(measure(kind), bool), False)

    def test_size_and_depth_by_their_definitions(self):
        def plain_size(kind):
            return 0 if isinstance(kind, str) else 1 + sum(plain_size(part) for part in kind[1:])

        def plain_depth(kind):
            return 0 if isinstance(kind, str) else 1 + max([plain_depth(part) for part in kind[1:]], default=0)

        for kind in many_types():
            self.assertEqual(size(kind), plain_size(kind))
            self.assertEqual(depth(kind), plain_depth(kind))

    def test_interface_stands_in_its_file(self):
        for name in ["is_type", "size", "depth", "fill", "text", "read"]:
            self.assertEqual(getattr(types, name).__module__, "endlesskinds.types")


def many_types():
    """Types of up to three levels."""
    kinds = ["X", "Y", ("one",)]
    for _ in range(2):
        longer = [("box", kind) for kind in kinds]
        longer += [("pair", kind, other) for kind in kinds for other in kinds]
        kinds = kinds + longer
        kinds = kinds[:40]
    return kinds


class FillTest(unittest.TestCase):
    def test_letters_are_replaced(self):
        self.assertEqual(fill("X", {"X": ("one",)}), ("one",))
        self.assertEqual(fill(("box", "X"), {"X": ("box", "Y")}), ("box", ("box", "Y")))
        self.assertEqual(fill(("pair", "X", "Y"), {"X": ("one",), "Y": ("two",)}), ("pair", ("one",), ("two",)))
        self.assertEqual(fill(("pair", "X", "X"), {"X": ("one",)}), ("pair", ("one",), ("one",)))
        self.assertEqual(
            fill(("pair", ("box", "X"), ("pair", "Y", ("box", "X"))), {"X": "A", "Y": ("two",)}),
            ("pair", ("box", "A"), ("pair", ("two",), ("box", "A"))),
        )

    def test_all_at_once(self):
        self.assertEqual(fill(("pair", "X", "Y"), {"X": "Y", "Y": "X"}), ("pair", "Y", "X"))
        self.assertEqual(fill("X", {"X": ("box", "X")}), ("box", "X"))
        self.assertEqual(fill("X", {"X": "Y", "Y": "Z", "Z": ("one",)}), "Y")
        self.assertEqual(
            fill(("pair", "X", ("box", "Y")), {"X": ("pair", "X", "Y"), "Y": ("box", "X")}),
            ("pair", ("pair", "X", "Y"), ("box", ("box", "X"))),
        )

    def test_letters_without_a_value_stay(self):
        for kind in ["X", ("box", "X"), ("pair", "X", ("box", "Y")), ("one",)]:
            self.assertEqual(fill(kind, {}), kind)
            self.assertEqual(fill(kind, {"Z": ("one",)}), kind)
        self.assertEqual(fill(("pair", "X", "Y"), {"Y": ("one",)}), ("pair", "X", ("one",)))

    def test_by_its_definition(self):
        def plain_fill(kind, values):
            if isinstance(kind, str):
                return values.get(kind, kind)
            return (kind[0],) + tuple(plain_fill(part, values) for part in kind[1:])

        for values in [{}, {"X": "Y"}, {"Y": "X", "X": "Y"}, {"X": ("pair", "Y", "X")}, {"Y": ("one",), "Z": "X"}]:
            for kind in many_types():
                self.assertEqual(fill(kind, values), plain_fill(kind, values))

    def test_by_name_and_again_and_nothing_modified(self):
        values = {"Y": ("box", "X"), "X": ("pair", "X", "Y")}
        before = copy.deepcopy(values)
        kind = ("pair", "X", ("box", "Y"))
        first = fill(kind, values)
        self.assertEqual(fill(values=values, kind=kind), first)
        self.assertEqual(fill(kind, values=values), first)
        self.assertEqual(list(values.items()), list(before.items()))
        self.assertEqual(kind, ("pair", "X", ("box", "Y")))
        self.assertIsInstance(first, tuple)

    def test_no_type_is_filled(self):
        for thing in anything():
            with self.assertRaises(NoType):
                fill(thing, {})
            with self.assertRaises(NoType):
                fill(("pair", "X", thing), {"X": "Y"})

    def test_no_type_ahead_of_no_values(self):
        for thing in anything():
            for values in [None, [], {"x": "X"}, {"X": 1}, {1: "X"}, thing]:
                with self.assertRaises(NoType):
                    fill(thing, values)

    def test_values_are_a_dict(self):
        for values in anything() + ["X", ("one",), [("X", "Y")], (("X", "Y"),), pair_table()]:
            if values == {}:
                continue
            with self.assertRaises(NoValues):
                fill(("one",), values)
            with self.assertRaises(NoValues):
                fill(kind=("box", "X"), values=values)

    def test_values_have_letters_as_keys(self):
        for letter in ["", "x", "XY", "one", " ", "@", "[", 1, 0, True, None, (), ("X",), ("one",)]:
            with self.assertRaises(NoValues):
                fill(("box", "X"), {letter: "Y"})
            with self.assertRaises(NoValues):
                fill(("box", "X"), {"X": "Y", letter: "Y"})
            with self.assertRaises(NoValues):
                fill(("box", "X"), {letter: "Y", "X": "Y"})

    def test_values_have_types_as_values(self):
        for thing in anything():
            with self.assertRaises(NoValues):
                fill(("box", "X"), {"X": thing})
            with self.assertRaises(NoValues):
                fill("Y", {"X": "Y", "Z": ("box", thing)})
            with self.assertRaises(NoValues):
                fill("Y", {"Z": thing, "X": "Y"})

    def test_what_is_refused_is_not_modified(self):
        values = {"X": ["one"], "y": "X"}
        with self.assertRaises(NoValues):
            fill("X", values)
        self.assertEqual(list(values.items()), [("X", ["one"]), ("y", "X")])


class LargeTest(unittest.TestCase):
    """Returned values may be passed back, whatever their size."""

    def test_deeper_than_calls_may_be(self):
        kind = ("box", "X")
        for _ in range(14):
            kind = fill(kind, {"X": kind})
        self.assertIs(is_type(kind), True)
        self.assertEqual(size(kind), 2 ** 14)
        self.assertEqual(depth(kind), 2 ** 14)
        self.assertEqual(depth(("pair", kind, "Y")), 2 ** 14 + 1)
        self.assertEqual(depth(fill(kind, {"X": ("one",)})), 2 ** 14 + 1)
        self.assertEqual(size(fill(("pair", "X", "Y"), {"Y": kind, "X": kind})), 2 ** 15 + 1)

    def test_deep_with_a_part_changed(self):
        for end in [["one"], (), "x", 1, None, ("box", True)]:
            kind = chain(3000, end)
            self.assertIs(is_type(kind), False)
            with self.assertRaises(NoType):
                size(kind)
            with self.assertRaises(NoType):
                depth(kind)
            with self.assertRaises(NoType):
                fill(kind, {})
            with self.assertRaises(NoValues):
                fill("X", {"X": kind})

    def test_wide(self):
        kind = "X"
        for _ in range(12):
            kind = fill(("pair", "X", "Y"), {"X": kind, "Y": kind})
        self.assertEqual(size(kind), 2 ** 12 - 1)
        self.assertEqual(depth(kind), 12)
        self.assertEqual(size(fill(kind, {"X": ("box", ("one",))})), 2 ** 12 - 1 + 2 * 2 ** 12)

    def test_repeated_added_and_omitted_parts(self):
        kind = fill(("pair", "X", ("box", "Y")), {"X": ("one",)})
        self.assertIs(is_type(kind + ("X",)), False)
        self.assertIs(is_type(kind + kind), False)
        self.assertIs(is_type(kind[:2]), True)
        self.assertIs(is_type(kind[1:]), False)
        self.assertIs(is_type(kind[:2] + kind[:2]), False)
        self.assertIs(is_type(kind[:2] + (kind,)), True)
        self.assertIs(is_type((kind,)), False)
        self.assertIs(is_type(list(kind)), False)


if __name__ == "__main__":
    unittest.main()
