"""The steps between the points of a table [31]."""

import itertools
import unittest

import naive
from endlesskinds.endings import steps
from endlesskinds.tables import Table
from families import family
from helpers import BOX, CELL, DEEP, DUO, ONE, SINK, bare, pair_table, reading


def step(one, other, length):
    """A step told in short: its points are written as a name, a dot and a letter."""
    return tuple(one.split(".")), tuple(other.split(".")), length


class StepsTest(unittest.TestCase):
    def check(self, classes, expected):
        table = Table(*classes)
        told = steps(table)
        self.assertEqual(told, tuple(step(*row) for row in expected))
        self.assertIsInstance(told, tuple)
        for row in told:
            self.assertIsInstance(row, tuple)
            self.assertIs(type(row[2]), int)

    def test_none(self):
        self.check([ONE], [])
        self.check([ONE, BOX, SINK, CELL, DUO], [])
        self.check([ONE, bare("odd", ("box", ("box", ("one",)))), BOX], [])

    def test_of_the_overview(self):
        self.check([ONE, BOX, DEEP], [("deep.X", "box.X", 0), ("deep.X", "deep.X", 1)])
        self.assertEqual(steps(pair_table()), (step("pair.X", "box.X", 0), step("pair.Y", "box.X", 0)))

    def test_the_length_is_how_deep_the_letter_is_in_the_argument(self):
        for argument, length in [
            ("X", 0),
            (("box", "X"), 1),
            (("duo", "X", ("one",)), 1),
            (("duo", ("one",), "X"), 1),
            (("box", ("box", "X")), 2),
            (("duo", ("one",), ("duo", "X", ("one",))), 2),
            (("box", ("box", ("box", "X"))), 3),
        ]:
            table = Table(ONE, BOX, DUO, SINK, reading("odd", "X", ("sink", argument)))
            found = [row for row in steps(table) if row[1] == ("sink", "X")]
            self.assertEqual(found, [step("odd.X", "sink.X", length)])

    def test_the_greatest_depth_in_one_argument(self):
        for kind in [("duo", "X", ("box", "X")), ("duo", ("box", "X"), "X"), ("duo", ("box", "X"), ("box", "X"))]:
            self.check([ONE, BOX, DUO, SINK, reading("odd", "X", ("sink", kind))], sorted([
                ("odd.X", "box.X", 0), ("odd.X", "duo.X", int(kind[1] != "X")),
                ("odd.X", "duo.Y", int(kind[2] != "X")), ("odd.X", "sink.X", 2),
            ]))

    def test_the_greatest_depth_in_any_argument_of_any_declared_type(self):
        shallow, deeper = ("sink", "X"), ("sink", ("box", ("box", "X")))
        expected = [("odd.X", "box.X", 1), ("odd.X", "sink.X", 2)]
        for kinds in [(shallow, deeper), (deeper, shallow), (deeper,)]:
            self.check([ONE, BOX, SINK, reading("odd", "X", *kinds)], expected)
            self.check([ONE, BOX, SINK, ("odd", (("X", "same"),), kinds, ())], expected)
        for parent, member in [(shallow, deeper), (deeper, shallow)]:
            odd = ("odd", (("X", "same"),), (parent,), (("a", "holds", member),))
            self.check([ONE, BOX, SINK, odd], expected)

    def test_a_parent_counts(self):
        odd = ("odd", (("X", "out"),), (("box", "X"),), ())
        self.check([ONE, BOX, odd], [("odd.X", "box.X", 0)])
        for place in range(2):
            odd = ("odd", (("X", "out"),), tuple([("one",)] * place + [("box", ("box", "X"))]), ())
            self.check([ONE, BOX, odd], [("odd.X", "box.X", 1)])

    def test_each_member_and_way_counts(self):
        for place, way in itertools.product(range(2), ["reads", "takes", "holds"]):
            members = [("a", "reads", ("one",)), ("b", "reads", ("one",))]
            members[place] = ("c", way, ("box", ("box", "X")))
            self.check([ONE, BOX, ("odd", (("X", "in"),), (), tuple(members))], [("odd.X", "box.X", 1)])

    def test_an_argument_within_an_argument_counts(self):
        odd = reading("odd", "X", ("sink", ("duo", ("one",), ("cell", "X"))))
        self.check([ONE, SINK, DUO, CELL, odd], [
            ("odd.X", "cell.X", 0), ("odd.X", "duo.Y", 1), ("odd.X", "sink.X", 2),
        ])

    def test_a_letter_alone_makes_no_step(self):
        self.check([ONE, ("odd", (("X", "same"), ("Y", "same")), (), (("a", "holds", "X"), ("b", "takes", "Y")))], [])

    def test_letters_are_those_of_the_class_with_the_name(self):
        odd = reading("odd", "YX", ("even", "X", ("odd", "Y", ("one",))))
        even = reading("even", "AZ")
        self.check([odd, ONE, even], [
            ("odd.X", "even.A", 0), ("odd.Y", "even.Z", 1), ("odd.Y", "odd.Y", 0),
        ])

    def test_ascending_whatever_the_order_of_the_classes(self):
        classes = [
            ONE,
            reading("ab", "YX", ("ab", "X", "Y"), ("b", ("ab", "Y", "Y"))),
            reading("b", "X", ("ab", ("b", "X"), "X")),
            reading("abc", "Z", ("b", "Z")),
        ]
        expected = [
            ("ab.X", "ab.Y", 0), ("ab.Y", "ab.X", 0), ("ab.Y", "ab.Y", 0), ("ab.Y", "b.X", 1),
            ("abc.Z", "b.X", 0), ("b.X", "ab.X", 0), ("b.X", "ab.Y", 1), ("b.X", "b.X", 0),
        ]
        for order in itertools.permutations(classes):
            self.check(order, expected)

    def test_of_classes_that_nothing_reaches(self):
        self.check([BOX, DEEP, ONE, reading("odd", "X", ("odd", ("odd", "X")))], [
            ("deep.X", "box.X", 0), ("deep.X", "deep.X", 1), ("odd.X", "odd.X", 1),
        ])

    def test_as_the_words_say(self):
        for table, _ in family(150, "abc", 2, 3) + family(80, "abcd"):
            told = steps(table)
            found = naive.all_steps(table, table.names)
            self.assertEqual(told, tuple(sorted((one, other, found[(one, other)]) for one, other in found)))
            self.assertEqual(steps(table=table), told)


if __name__ == "__main__":
    unittest.main()
