"""The signs of places, faults, and the signs that parameters need [50], [51]."""

import itertools
import unittest

import plain
from endlesskinds.errors import Turned
from endlesskinds.signs import faults, signs
from endlesskinds.tables import Table
from endlesskinds.types import text
from families import graded
from helpers import BOX, CELL, ONE, PAIR, SINK, pair_table

# Its signs are as its variances.
MIXED = ("mixed", (("X", "out"), ("Y", "in")), (), (("a", "reads", "X"), ("b", "takes", "Y")))
EMPTY = ("empty", (("X", "out"),), (), ())
WAYS = {"reads": "+", "takes": "-", "holds": "+-"}
TURNED = {"+": "-", "-": "+", "+-": "+-"}


def with_member(way, kind, variance="same"):
    return ("odd", (("Z", variance),), (), (("at", way, kind),))


class FaultsTest(unittest.TestCase):
    def check(self, classes, *expected):
        found = faults(Table(*classes))
        self.assertIsInstance(found, tuple)
        self.assertEqual(found, expected)

    def test_none(self):
        self.check([ONE])
        self.check([ONE, BOX, PAIR])
        self.check([ONE, BOX, SINK, CELL])
        self.check(pair_table().classes)

    def test_ways(self):
        wrong = {("out", "reads"): "", ("out", "takes"): "-", ("out", "holds"): "-",
                 ("in", "reads"): "+", ("in", "takes"): "", ("in", "holds"): "+",
                 ("same", "reads"): "", ("same", "takes"): "", ("same", "holds"): ""}
        for (variance, way), sign in wrong.items():
            expected = [("odd", "Z", sign)] if sign else []
            self.check([ONE, with_member(way, "Z", variance)], *expected)

    def test_within_arguments(self):
        barred = {"out": "-", "in": "+", "same": "no sign"}
        for variance, way in itertools.product(barred, WAYS):
            plain_sign, turned_sign = WAYS[way], TURNED[WAYS[way]]
            for kind, sign in [
                (("box", "Z"), plain_sign), (("sink", "Z"), turned_sign), (("cell", "Z"), "+-"),
                (("box", ("sink", "Z")), turned_sign), (("sink", ("sink", "Z")), plain_sign),
                (("sink", ("sink", ("sink", "Z"))), turned_sign), (("sink", ("cell", "Z")), "+-"),
                (("cell", ("sink", "Z")), "+-"), (("cell", ("one",)), ""),
            ]:
                expected = [("odd", "Z", barred[variance])] if barred[variance] in sign else []
                self.check([ONE, BOX, SINK, CELL, with_member(way, kind, variance)], *expected)

    def test_each_argument_has_its_own_sign(self):
        for kind, signs_if_read in [(("mixed", "Z", ("one",)), "+"), (("mixed", ("one",), "Z"), "-"),
                                    (("mixed", "Z", "Z"), "+-"), (("mixed", ("one",), ("one",)), "")]:
            for variance, barred_if_read in [("out", "-"), ("in", "+")]:
                for way, barred in [("reads", barred_if_read), ("takes", TURNED[barred_if_read])]:
                    expected = [("odd", "Z", barred_if_read)] if barred in signs_if_read else []
                    self.check([ONE, MIXED, with_member(way, kind, variance)], *expected)

    def test_each_sign_once(self):
        odd = ("odd", (("Z", "out"), ("A", "in")), (), (("a", "reads", ("mixed", "Z", "A")),
                                                        ("b", "holds", ("mixed", "Z", "Z"))))
        self.check([ONE, MIXED, odd], ("odd", "Z", "-"))
        odd = odd[:3] + ((("a", "takes", ("mixed", "Z", "A")), ("b", "holds", ("mixed", "A", "Z"))),)
        self.check([ONE, MIXED, odd], ("odd", "A", "+"), ("odd", "Z", "-"))

    def test_ascending(self):
        last = ("zeta", (("B", "out"), ("A", "out")), (), (("a", "takes", "B"), ("b", "takes", "A")))
        first = ("beta", (("X", "out"), ("Y", "in")), (), (("a", "takes", "X"), ("b", "reads", "Y")))
        more = ("betas", (("A", "in"),), (), (("a", "holds", "A"),))
        for order in itertools.permutations([ONE, last, first, more]):
            self.check(order, ("beta", "X", "-"), ("beta", "Y", "+"), ("betas", "A", "+"), ("zeta", "A", "-"),
                       ("zeta", "B", "-"))

    def test_parents_are_right_in_each_table(self):
        self.check([ONE, SINK, ("odd", (("Z", "in"),), (("sink", "Z"),), ())])
        with self.assertRaises(Turned):
            Table(ONE, SINK, ("odd", (("Z", "out"),), (("sink", "Z"),), ()))
        odd = ("odd", (("Z", "in"),), (("sink", "Z"),), (("a", "reads", "Z"),))
        self.check([ONE, SINK, odd], ("odd", "Z", "+"))

    def test_as_the_words_say(self):
        many = 0
        for table in graded(200) + graded(100, "abc", 2, 3) + graded(100, "ab", 2, 3):
            self.assertEqual(faults(table), plain.faults(table))
            many += len(faults(table)) > 0
        self.assertGreater(many, 80)


class SignsTest(unittest.TestCase):
    def check(self, classes, *expected):
        found = signs(Table(*classes))
        self.assertIsInstance(found, tuple)
        self.assertEqual([" ".join(row) for row in found], list(expected))

    def test_no_points(self):
        self.check([ONE])

    def test_by_members_and_parents(self):
        self.check([ONE, BOX, SINK, CELL, EMPTY], "box X +", "cell X +-", "empty X ", "sink X -")
        self.check([ONE, BOX, PAIR], "box X +", "pair X +", "pair Y +-")
        self.check([ONE, SINK, ("odd", (("Z", "in"),), (("sink", "Z"),), ())], "odd Z -", "sink X -")
        self.check([ONE, MIXED, ("odd", (("Z", "same"),), (("mixed", "Z", "Z"),), ())],
                   "mixed X +", "mixed Y -", "odd Z +-")

    def test_variances_do_not_count(self):
        for variance in ["out", "in", "same"]:
            for way, sign in WAYS.items():
                self.check([ONE, with_member(way, "Z", variance)], f"odd Z {sign}")
        box = ("box", (("X", "in"),), (), (("first", "reads", "X"),))
        self.check([ONE, box, with_member("reads", ("box", "Z"))], "box X +", "odd Z +")
        self.check([ONE, box, with_member("takes", ("box", "Z"))], "box X +", "odd Z -")

    def test_signs_in_the_place_of_variances(self):
        for way, sign in WAYS.items():
            for kind, expected in [(("box", "Z"), sign), (("sink", "Z"), TURNED[sign]), (("cell", "Z"), "+-"),
                                   (("sink", ("sink", "Z")), sign), (("sink", ("cell", "Z")), "+-")]:
                found = signs(Table(ONE, BOX, SINK, CELL, with_member(way, kind)))
                self.assertIn(("odd", "Z", expected), found)

    def test_none_in_an_argument_for_a_parameter_without_signs(self):
        for way in WAYS:
            for kind in [("empty", "Z"), ("empty", ("box", "Z")), ("box", ("empty", "Z")),
                         ("empty", ("sink", ("cell", "Z"))), ("cell", ("empty", ("cell", "Z")))]:
                others = [one for one in [BOX, SINK, CELL] if one[0] in text(kind)]
                found = signs(Table(ONE, *others, EMPTY, with_member(way, kind)))
                self.assertIn(("odd", "Z", ""), found)
                self.assertIn(("empty", "X", ""), found)

    def test_the_places_beside_it_count(self):
        odd = ("odd", (("Z", "same"),), (), (("a", "holds", ("empty", "Z")), ("b", "takes", ("empty", ("box", "Z")))))
        self.check([ONE, BOX, EMPTY, odd], "box X +", "empty X ", "odd Z ")
        odd = odd[:3] + ((("a", "holds", ("empty", "Z")), ("b", "takes", ("duo", "Z", "Z"))),)
        duo = ("duo", (("X", "same"), ("Y", "same")), (), (("a", "reads", "Y"),))
        self.check([ONE, duo, EMPTY, odd], "duo X ", "duo Y +", "empty X ", "odd Z -")

    def test_around_its_own_class(self):
        again = ("again", (("X", "out"),), (), (("a", "holds", ("again", "X")),))
        self.check([ONE, again], "again X ")
        self.check([ONE, again[:3] + (again[3] + (("b", "takes", "X"),),)], "again X +-")
        turn = ("turn", (("X", "out"),), (), (("a", "takes", ("turn", "X")), ("b", "reads", "X")))
        self.check([ONE, turn], "turn X +-")
        swap = ("swap", (("X", "out"), ("Y", "out")), (), (("a", "takes", ("swap", "Y", "X")), ("b", "reads", "X")))
        self.check([ONE, swap], "swap X +", "swap Y -")

    def test_over_several_classes(self):
        chain = [(one, (("X", "same"),), (), (("a", "takes", (other, "X")),)) for one, other in ["ab", "bc"]]
        self.check([ONE, *chain, ("c", (("X", "out"),), (), (("a", "takes", "X"),))], "a X -", "b X +", "c X -")
        self.check([ONE, *chain, ("c", (("X", "out"),), (), ())], "a X ", "b X ", "c X ")
        self.check([ONE, *chain, ("c", (("X", "out"),), (), (("a", "takes", ("a", "X")), ("b", "reads", "X")))],
                   "a X +-", "b X +-", "c X +-")

    def test_ascending(self):
        rows = [("zeta", "YX"), ("beta", "CB"), ("betas", "A")]
        for order in itertools.permutations(rows):
            classes = [(name, tuple((letter, "in") for letter in letters), (), ()) for name, letters in order]
            self.check([*classes, ONE], "beta B ", "beta C ", "betas A ", "zeta X ", "zeta Y ")

    def test_as_the_words_say(self):
        told = {"": 0, "+": 0, "-": 0, "+-": 0}
        for table in graded(250) + graded(100, "abc", 2, 3) + graded(100, "ab", 2, 3):
            if len(plain.points(table)) > 5:
                continue
            found = signs(table)
            self.assertEqual(found, plain.signs(table))
            for _, _, given in found:
                told[given] += 1
        self.assertGreater(min(told.values()), 60)

    def test_without_faults(self):
        many = 0
        for table in graded(300) + graded(100, "abc", 2, 3):
            if faults(table):
                continue
            many += 1
            given = {(name, letter): found for name, letter, found in signs(table)}
            for name, _, letter, variance in plain.points(table):
                if variance == "out":
                    self.assertNotIn("-", given[(name, letter)])
                if variance == "in":
                    self.assertNotIn("+", given[(name, letter)])
        self.assertGreater(many, 150)


if __name__ == "__main__":
    unittest.main()
