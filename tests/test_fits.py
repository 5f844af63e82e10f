"""Which classes fit one another: Unfit, Looped, Turned [21], and [50], [51] for parents."""

import itertools
import unittest

from endlesskinds.errors import Looped, Turned, Unfit
from endlesskinds.tables import Table
from helpers import BOX, CELL, ONE, PAIR, SINK, TWO, bare


class UnfitTest(unittest.TestCase):
    def check_unfit(self, kind, parameters=()):
        """Check that a class does not fit if it declares a type, wherever it does so."""
        declared = [((), (("a", way, kind),)) for way in ["reads", "takes", "holds"]]
        declared.append(((), (("a", "reads", ("one",)), ("b", "reads", kind))))
        if isinstance(kind, tuple):
            declared += [((kind,), ()), ((("one",), kind), ())]
        for parents, members in declared:
            one = ("odd", parameters, parents, members)
            for classes in [(ONE, BOX, PAIR, one), (one, PAIR, BOX, ONE)]:
                with self.subTest(one=one), self.assertRaises(Unfit) as caught:
                    Table(*classes)
                self.assertEqual(caught.exception.name, "odd")

    def test_names_of_no_class(self):
        for kind in [("nowhere",), ("nowhere", ("one",)), ("box", ("nowhere",)), ("pair", ("one",), ("nowhere",)),
                     ("pair", ("box", ("nowhere",)), ("one",)), ("on",), ("ones",), ("x",)]:
            self.check_unfit(kind)

    def test_other_numbers_of_arguments(self):
        for kind in [("one", ("one",)), ("one", ("one",), ("one",)), ("box",), ("box", ("one",), ("one",)), ("pair",),
                     ("pair", ("one",)), ("box", ("box",)), ("pair", ("one",), ("box",)), ("odd", ("one",)),
                     ("box", ("pair", ("one",))), ("pair", ("one", ("one",)), ("one",))]:
            self.check_unfit(kind)

    def test_other_letters(self):
        for kind in ["X", "Y", ("box", "X"), ("pair", ("one",), "X"), ("pair", ("box", ("box", "X")), ("one",))]:
            self.check_unfit(kind)
            self.check_unfit(kind, (("A", "same"),))
        self.check_unfit("Y", (("X", "out"),))
        self.check_unfit(("box", "Y"), (("X", "out"),))
        self.check_unfit(("pair", "X", "Y"), (("X", "out"), ("Z", "out")))
        self.check_unfit(("pair", "Y", "X"), (("X", "out"), ("Z", "out")))

    def test_the_first_class_is_told(self):
        right = ("right", (), (), (("a", "reads", ("box", ("one",))),))
        first = ("first", (), (), (("a", "reads", "X"),))
        second = ("second", (), (("nowhere",),), ())
        for classes in itertools.permutations([ONE, BOX, right, first, second]):
            names = [one[0] for one in classes]
            with self.assertRaises(Unfit) as caught:
                Table(*classes)
            wanted = min(["first", "second"], key=names.index)
            self.assertEqual(caught.exception.name, wanted)

    def test_a_class_that_is_left_out(self):
        classes = [ONE, BOX, ("deep", (("X", "out"),), (), (("more", "reads", ("deep", ("box", "X"))),))]
        self.assertEqual(len(Table(*classes)), 3)
        with self.assertRaises(Unfit) as caught:
            Table(classes[0], classes[2])
        self.assertEqual(caught.exception.name, "deep")

    def test_what_fits(self):
        for classes in [
            (("self", (), (), (("a", "holds", ("self",)),)),),
            (("left", (), (), (("a", "holds", ("right",)),)), ("right", (), (), (("a", "holds", ("left",)),))),
            (ONE, BOX, ("odd", (), (("box", ("odd",)),), ())),
            (ONE, PAIR, BOX, ("odd", (("Y", "same"), ("X", "out")), (("pair", "X", "Y"),), (("a", "reads", "Y"),))),
        ]:
            self.assertEqual(Table(*classes).classes, classes)


class LoopedTest(unittest.TestCase):
    def check_looped(self, name, *classes):
        with self.assertRaises(Looped) as caught:
            Table(*classes)
        self.assertEqual(caught.exception.name, name)

    def test_own_parent(self):
        self.check_looped("odd", bare("odd", ("odd",)))
        self.check_looped("odd", ONE, bare("odd", ("one",), ("odd",)))
        self.check_looped("odd", ONE, ("odd", (("X", "out"),), (("odd", ("odd", "X")),), ()))

    def test_longer_loops(self):
        left, right = bare("left", ("right",)), bare("right", ("left",))
        self.check_looped("left", left, right)
        self.check_looped("right", right, left)
        ring = [bare("a", ("b",)), bare("b", ("c",)), bare("c", ("d",)), bare("d", ("e",)), bare("e", ("a",))]
        for at in range(5):
            self.check_looped("abcde"[at], *ring[at:], *ring[:at])

    def test_a_class_below_a_loop_is_not_told(self):
        low, left, right = bare("low", ("left",)), bare("left", ("right",)), bare("right", ("left",))
        self.check_looped("left", low, left, right)
        self.check_looped("right", low, right, left)

    def test_names_in_arguments_make_no_loop(self):
        odd = ("odd", (), (("sink", ("sink", ("odd",))),), ())
        self.assertEqual(len(Table(SINK, odd)), 2)
        left, right = bare("left", ("box", ("right",))), bare("right", ("box", ("left",)))
        self.assertEqual(len(Table(left, right, BOX)), 3)
        self.assertEqual(len(Table(("odd", (), (), (("a", "holds", ("odd",)),)))), 1)

    def test_an_elder_by_two_ways_makes_no_loop(self):
        top, left, right = bare("top"), bare("left", ("top",)), bare("right", ("top",))
        low = bare("low", ("left",), ("right",))
        self.assertEqual(len(Table(low, left, right, top)), 4)
        self.assertEqual(len(Table(top, right, left, low)), 4)
        self.assertEqual(len(Table(top, bare("twice", ("top",), ("top",)))), 2)

    def test_all_tables_of_three_classes(self):
        names = ["a", "b", "c"]
        choices = [parents for many in range(3) for parents in itertools.combinations(names, many)]
        for rows in itertools.product(choices, repeat=3):
            parents = dict(zip(names, rows))
            classes = [bare(name, *[(parent,) for parent in parents[name]]) for name in names]
            looped = [name for name in names if plainly_elder(parents, name, name, 3)]
            if looped:
                self.check_looped(looped[0], *classes)
            else:
                self.assertEqual(Table(*classes).classes, tuple(classes))


def plainly_elder(parents, name, other, steps):
    """Whether one class is an elder of another one, by so many steps at most."""
    if steps == 0:
        return False
    return any(parent == name or plainly_elder(parents, name, parent, steps - 1) for parent in parents[other])


TURN = {"+": "-", "-": "+", "*": "*"}


def plain_signs(kind, letter, sign, variances):
    """The signs of a letter's places in a type; * is for both."""
    if isinstance(kind, str):
        return {sign} if kind == letter else set()
    found = set()
    for argument, variance in zip(kind[1:], variances[kind[0]]):
        own = {"out": sign, "in": TURN[sign], "same": "*"}[variance]
        found |= plain_signs(argument, letter, own, variances)
    return found


class TurnedTest(unittest.TestCase):
    def check_turned(self, name, letter, *classes):
        with self.assertRaises(Turned) as caught:
            Table(*classes)
        self.assertEqual((caught.exception.name, caught.exception.letter), (name, letter))

    def check_variances(self, parent, right):
        """Check with which variances a class may have a parent with X."""
        for variance in ["out", "in", "same"]:
            one = ("kind", (("X", variance),), (parent,), ())
            classes = (ONE, BOX, SINK, CELL, one)
            with self.subTest(parent=parent, variance=variance):
                if variance in right:
                    self.assertEqual(Table(*classes).classes, classes)
                else:
                    self.check_turned("kind", "X", *classes)

    def test_one_argument(self):
        self.check_variances(("box", "X"), ["out", "same"])
        self.check_variances(("sink", "X"), ["in", "same"])
        self.check_variances(("cell", "X"), ["same"])
        self.check_variances(("box", ("one",)), ["out", "in", "same"])

    def test_arguments_within_arguments(self):
        self.check_variances(("box", ("box", "X")), ["out", "same"])
        self.check_variances(("box", ("sink", "X")), ["in", "same"])
        self.check_variances(("sink", ("box", "X")), ["in", "same"])
        self.check_variances(("sink", ("sink", "X")), ["out", "same"])
        self.check_variances(("sink", ("sink", ("sink", "X"))), ["in", "same"])
        self.check_variances(("sink", ("sink", ("sink", ("sink", "X")))), ["out", "same"])
        for kind in [("box", ("cell", "X")), ("cell", ("box", "X")), ("cell", ("sink", "X")), ("sink", ("cell", "X")),
                     ("sink", ("sink", ("cell", "X"))), ("sink", ("cell", ("sink", "X")))]:
            self.check_variances(kind, ["same"])

    def test_all_parents_of_two_arguments(self):
        variances = {"one": [], "box": ["out"], "sink": ["in"], "both": ["out", "in"]}
        both = ("both", (("A", "out"), ("B", "in")), (), ())
        kinds = ["X", "Y", ("one",)]
        kinds += [(name, kind) for name in ["box", "sink"] for kind in ["X", "Y"]]
        for first, second in itertools.product(kinds, repeat=2):
            parent = ("both", first, second)
            for left, right in itertools.product(["out", "in", "same"], repeat=2):
                one = ("kind", (("X", left), ("Y", right)), (parent,), ())
                self.check_by_definition((ONE, BOX, SINK, both, one), parent, variances)

    def check_by_definition(self, classes, parent, variances):
        barred = {"out": {"-", "*"}, "in": {"+", "*"}, "same": set()}
        wrong = [letter for letter, variance in classes[-1][1]
                 if plain_signs(parent, letter, "+", variances) & barred[variance]]
        if wrong:
            self.check_turned("kind", wrong[0], *classes)
        else:
            self.assertEqual(Table(*classes).classes, classes)

    def test_a_same_among_two_arguments(self):
        for letter, variance, right in [("X", "out", True), ("X", "in", False), ("X", "same", True)]:
            one = ("kind", ((letter, variance),), (("pair", letter, ("one",)),), ())
            if right:
                self.assertEqual(len(Table(ONE, BOX, PAIR, one)), 4)
            else:
                self.check_turned("kind", letter, ONE, BOX, PAIR, one)
        for variance in ["out", "in"]:
            self.check_turned(
                "kind", "X", ONE, BOX, PAIR, ("kind", (("X", variance),), (("pair", ("one",), "X"),), ())
            )

    def test_each_parent_counts(self):
        right, wrong = ("box", "X"), ("sink", "X")
        for parents in [(right, wrong), (wrong, right), (("one",), wrong), (wrong, ("one",)), (wrong, wrong)]:
            self.check_turned("kind", "X", ONE, BOX, SINK, ("kind", (("X", "out"),), parents, ()))

    def test_the_first_class_and_its_first_parameter(self):
        left = ("left", (("Y", "in"), ("X", "in")), (("box", "X"), ("box", "Y")), ())
        right = ("right", (("X", "out"), ("Y", "in")), (("box", "Y"),), ())
        self.check_turned("left", "Y", ONE, BOX, left, right)
        self.check_turned("right", "Y", ONE, right, BOX, left)
        self.check_turned("left", "Y", left, right, BOX, ONE)
        turned = ("left", (("X", "in"), ("Y", "in")), (("box", "Y"), ("box", "X")), ())
        self.check_turned("left", "X", ONE, BOX, turned, right)

    def test_members_do_not_count(self):
        for variance, way in itertools.product(["out", "in", "same"], ["reads", "takes", "holds"]):
            for kind in ["X", ("box", "X"), ("sink", "X"), ("cell", ("sink", "X"))]:
                one = ("kind", (("X", variance),), (), (("a", way, kind),))
                self.assertEqual(len(Table(ONE, BOX, SINK, CELL, one)), 5)

    def test_the_declared_variances_count(self):
        """A parent's parameter is as it is declared, even where none of its places asks for it."""
        for variance in ["out", "in", "same"]:
            top = ("top", (("X", variance),), (), ())
            low = ("low", (("X", "out"),), (("top", "X"),), ())
            if variance == "out":
                self.assertEqual(len(Table(TWO, top, low)), 3)
            else:
                self.check_turned("low", "X", TWO, top, low)
                self.check_turned("low", "X", low, top, TWO)


if __name__ == "__main__":
    unittest.main()
