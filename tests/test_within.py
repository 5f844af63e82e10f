"""Ancestors, and whether one type is within another one [40], [41]."""

import collections
import unittest

import naive
import plain
from endlesskinds.errors import Endless, NoType, TooMany
from endlesskinds.tables import Table
from endlesskinds.types import text
from endlesskinds.within import ancestors, answer, reasons, shows
from families import graded, questions, turned_questions, turning, winding
from helpers import BOX, CELL, DEEP, DUO, ONE, SINK, TWO, bare, chain, pair_table, reading

ODD = bare("odd", ("sink", ("sink", ("odd",))))
# Its parents widen, its members do not.
WIDE = ("wide", (("X", "out"),), (("box", ("box", ("wide", ("wide", "X")))),), ())


def told(table, one, other):
    """The answer, or the class of the exception that keeps it from being told."""
    try:
        return answer(table, one, other)
    except (Endless, TooMany) as error:
        return type(error)


def cycle_of(table, one, other):
    try:
        return answer(table, one, other)
    except Endless as error:
        return error.cycle


class AncestorsTest(unittest.TestCase):
    def check(self, table, kind, texts):
        found = ancestors(table, kind)
        self.assertIsInstance(found, tuple)
        self.assertEqual([text(one) for one in found], texts)

    def test_a_letter_is_its_only_ancestor(self):
        for letter in "AXYZ":
            self.check(pair_table(), letter, [letter])

    def test_without_parents(self):
        self.check(pair_table(), ("one",), ["one"])
        self.check(pair_table(), ("box", "X"), ["box(X)"])
        self.check(pair_table(), ("box", ("pair", "X", "Z")), ["box(pair(X, Z))"])

    def test_parents_with_the_arguments_filled_in(self):
        self.check(pair_table(), ("pair", ("box", "Y"), "X"), ["box(box(Y))", "one", "pair(box(Y), X)"])
        self.check(pair_table(), ("pair", "Y", "X"), ["box(Y)", "one", "pair(Y, X)"])

    def test_parents_of_parents(self):
        low = ("low", (("Y", "out"),), (("pair", ("box", "Y"), ("one",)),), ())
        self.check(pair_table() + low, ("low", ("low", "X")), [
            "box(box(low(X)))", "low(low(X))", "one", "pair(box(low(X)), one)",
        ])

    def test_members_and_arguments_count_for_nothing(self):
        table = Table(ONE, BOX, reading("low", "X", ("box", "X"), ("one",)))
        self.check(table, ("low", ("low", ("one",))), ["low(low(one))"])

    def test_one_that_two_parents_share_is_told_once(self):
        left = ("left", (("X", "out"),), (("box", "X"),), ())
        right = ("right", (("X", "out"),), (("box", "X"),), ())
        both = ("both", (("X", "out"),), (("left", "X"), ("right", "X")), ())
        self.check(Table(ONE, BOX, left, right, both), ("both", ("one",)), [
            "both(one)", "box(one)", "left(one)", "right(one)",
        ])

    def test_several_of_one_class(self):
        both = ("both", (("X", "out"), ("Y", "out")), (("box", "Y"), ("box", ("box", "X"))), ())
        self.check(Table(ONE, BOX, both), ("both", "X", "Y"), ["both(X, Y)", "box(Y)", "box(box(X))"])
        self.check(Table(ONE, BOX, both), ("both", "X", ("box", "X")), ["both(X, box(X))", "box(box(X))"])

    def test_ascending_by_texts(self):
        names = ["a", "ab", "abc", "b"]
        for order in [names, names[::-1]]:
            table = Table(*[bare(name) for name in order if name != "b"], bare("b", ("abc",), ("a",)),
                          bare("aa", ("b",), ("ab",)))
            self.check(table, ("aa",), ["a", "aa", "ab", "abc", "b"])

    def test_told_where_answers_are_endless(self):
        self.check(Table(ONE, BOX, WIDE), ("wide", "X"), ["box(box(wide(wide(X))))", "wide(X)"])

    def test_of_any_size(self):
        self.assertEqual(ancestors(Table(ONE, BOX), chain(6000, "X"))[0][0], "box")
        twins = ("twins", (("X", "out"),), (("duo", "X", "X"),), ())
        more = ("more", (("X", "out"),), (("twins", ("duo", ("duo", "X", "X"), ("duo", "X", "X"))),), ())
        last = ("last", (("X", "out"),), (("more", ("duo", ("duo", "X", "X"), ("duo", "X", "X"))),), ())
        self.assertEqual(len(ancestors(Table(ONE, DUO, twins, more, last), ("last", "X"))), 4)

    def test_as_the_words_say(self):
        for at, table in enumerate(graded(150) + winding(50)):
            for one, other in questions(table, at, 4, ["X", "Z"]):
                for kind in [one, other]:
                    expected = tuple(sorted(plain.ancestors(table, kind), key=text))
                    self.assertEqual(ancestors(table, kind), expected)


class AnswerTest(unittest.TestCase):
    def check(self, table, one, other, expected):
        self.assertEqual(told(table, one, other), expected)

    def test_of_the_overview(self):
        self.check(Table(SINK, ODD), ("odd",), ("sink", ("odd",)), "round")

    def test_equal_types(self):
        for kind in ["X", "A", ("one",), ("box", "X"), ("pair", ("box", "Y"), ("pair", "X", ("one",)))]:
            self.check(pair_table(), kind, kind, "within")

    def test_letters(self):
        table = pair_table() + SINK
        self.check(table, "X", "Y", "apart")
        self.check(table, "X", ("one",), "apart")
        self.check(table, ("one",), "X", "apart")
        self.check(table, ("box", "X"), "X", "apart")
        self.check(table, ("box", "X"), ("box", "Y"), "apart")
        self.check(table, ("pair", "X", "Y"), ("box", "X"), "within")
        self.check(table, ("pair", "X", "Y"), ("box", "Y"), "apart")
        self.check(table, ("sink", "Q"), ("sink", "Q"), "within")

    def test_no_way_is_apart(self):
        table = pair_table() + TWO
        self.check(table, ("one",), ("two",), "apart")
        self.check(table, ("box", ("one",)), ("one",), "apart")
        self.check(table, ("box", ("one",)), ("pair", ("one",), ("one",)), "apart")

    def test_by_an_ancestor(self):
        table = Table(ONE, bare("low", ("one",)), bare("lower", ("low",)), bare("lowest", ("lower",)))
        names = ["one", "low", "lower", "lowest"]
        for at, one in enumerate(names):
            for number, other in enumerate(names):
                self.check(table, (one,), (other,), "within" if at >= number else "apart")

    def test_arguments_for_parameters_that_are_out(self):
        table = Table(ONE, TWO, BOX, bare("low", ("one",)))
        self.check(table, ("box", ("low",)), ("box", ("one",)), "within")
        self.check(table, ("box", ("one",)), ("box", ("low",)), "apart")
        self.check(table, ("box", ("box", ("low",))), ("box", ("box", ("one",))), "within")
        self.check(table, ("box", ("two",)), ("box", ("one",)), "apart")

    def test_arguments_for_parameters_that_are_in(self):
        table = Table(ONE, TWO, SINK, BOX, bare("low", ("one",)))
        self.check(table, ("sink", ("low",)), ("sink", ("one",)), "apart")
        self.check(table, ("sink", ("one",)), ("sink", ("low",)), "within")
        self.check(table, ("sink", ("sink", ("low",))), ("sink", ("sink", ("one",))), "within")
        self.check(table, ("sink", ("box", ("one",))), ("sink", ("box", ("low",))), "within")
        self.check(table, ("sink", ("one",)), ("sink", ("two",)), "apart")

    def test_arguments_for_parameters_that_are_same(self):
        table = Table(ONE, CELL, BOX, bare("low", ("one",)))
        for kind in ["X", ("one",), ("low",), ("box", ("low",))]:
            self.check(table, ("cell", kind), ("cell", kind), "within")
        self.check(table, ("cell", ("low",)), ("cell", ("one",)), "apart")
        self.check(table, ("cell", ("one",)), ("cell", ("low",)), "apart")
        self.check(table, ("cell", ("box", ("low",))), ("cell", ("box", ("one",))), "apart")
        self.check(table, ("cell", "X"), ("cell", "Y"), "apart")

    def test_both_arguments_count(self):
        low = bare("low", ("one",))
        for first in ["out", "in", "same"]:
            for second in ["out", "in", "same"]:
                table = Table(ONE, low, ("two", (("X", first), ("Y", second)), (), ()))
                for one in ["one", "low"]:
                    for other in ["one", "low"]:
                        good = [one == other or (variance, one) in [("out", "low"), ("in", "one")]
                                for variance in [first, second]]
                        for at in range(2):
                            mine = [("one",), ("one",)]
                            theirs = [("one",), ("one",)]
                            mine[at], theirs[at] = (one,), (other,)
                            expected = "within" if good[at] else "apart"
                            self.check(table, ("two", *mine), ("two", *theirs), expected)

    def test_one_of_several_ways_is_enough(self):
        low = bare("low", ("one",))
        both = bare("both", ("box", ("two",)), ("box", ("low",)))
        table = Table(ONE, TWO, BOX, low, both)
        for kind, expected in [("one", "within"), ("two", "within"), ("low", "within"), ("both", "apart")]:
            self.check(table, ("both",), ("box", (kind,)), expected)
        both = bare("both", ("cell", ("two",)), ("cell", ("low",)))
        table = Table(ONE, TWO, CELL, low, both)
        for kind, expected in [("one", "apart"), ("two", "within"), ("low", "within"), ("both", "apart")]:
            self.check(table, ("both",), ("cell", (kind,)), expected)

    def test_a_round_way_beside_others(self):
        # Each of them lies within the first, or in the last is kept out by it.
        other = bare("other", ("sink", ("sink", ("other",))), ("sink", ("other",)))
        self.check(Table(SINK, other), ("other",), ("sink", ("other",)), "within")
        flat = ("duo", (("X", "in"), ("Y", "out")), (), ())
        kept = bare("kept", ("duo", ("duo", ("kept",), ("one",)), ("one",)))
        self.check(Table(ONE, TWO, flat, kept), ("kept",), ("duo", ("kept",), ("two",)), "apart")
        self.check(Table(ONE, TWO, flat, kept), ("kept",), ("duo", ("kept",), ("one",)), "round")

    def test_round_by_several_pairs(self):
        left = bare("left", ("sink", ("sink", ("right",))))
        right = bare("right", ("sink", ("sink", ("left",))))
        table = Table(SINK, left, right)
        self.check(table, ("left",), ("sink", ("right",)), "round")
        self.check(table, ("right",), ("sink", ("right",)), "round")
        self.check(table, ("right",), ("sink", ("sink", ("left",))), "within")
        self.check(table, ("left",), ("right",), "apart")

    def test_not_round_where_nothing_turns_back(self):
        table = Table(SINK, ODD)
        self.check(table, ("odd",), ("odd",), "within")
        self.check(table, ("sink", ("odd",)), ("odd",), "apart")
        self.check(table, ("odd",), ("sink", ("sink", ("odd",))), "within")
        self.check(table, ("sink", ("sink", ("odd",))), ("sink", ("odd",)), "round")

    def test_deeper_than_calls_may_be(self):
        self.check(Table(ONE, BOX), chain(6000), ("one",), "apart")
        self.check(Table(ONE, BOX), ("one",), chain(6000), "apart")
        self.check(Table(ONE, CELL), ("cell", ("cell", "X")), ("cell", ("cell", "X")), "within")
        table = Table(ONE, BOX, CELL)
        self.check(table, ("cell", chain(6000)), ("cell", chain(6000)), "within")
        self.check(table, ("cell", chain(6000)), ("cell", chain(6001)), "apart")

    def test_as_the_words_say(self):
        counts = collections.Counter()
        rows = [(table, questions(table, at, 12)) for at, table in enumerate(graded(150) + graded(100, "ab"))]
        rows += [(table, questions(table, at, 12, ["X", ("p",), ("q",)])) for at, table in enumerate(winding(100))]
        rows += [(table, turned_questions()) for table in turning(40)]
        for table, pairs in rows:
            for one, other in pairs:
                expected = plain.parent_cycle(table, naive.names_in(one) | naive.names_in(other))
                if expected is None:
                    expected = plain.answer(table, one, other) or TooMany
                    self.assertEqual(told(table, one, other), expected)
                else:
                    self.assertEqual(cycle_of(table, one, other), expected)
                counts[expected if isinstance(expected, str) else ""] += 1
        self.assertGreater(min(counts["within"], counts["apart"], 6 * counts["round"]), 800)


class EndlessTest(unittest.TestCase):
    """What is endless is so for answer, reasons and shows in the same way."""

    def check(self, classes, one, other, points):
        table = Table(*classes)
        expected = tuple(tuple(point.split(".")) for point in points.split())
        for use in [lambda: answer(table, one, other), lambda: reasons(table, one, other),
                    lambda: shows(table, one, other, None), lambda: shows(table, one, other, ("within", ()))]:
            with self.assertRaises(Endless) as caught:
                use()
            self.assertEqual(caught.exception.cycle, expected)

    def test_a_class_in_one_of_both(self):
        classes = [ONE, BOX, WIDE]
        for kind in [("wide", "X"), ("box", ("wide", ("one",))), ("box", ("box", ("wide", "X")))]:
            for other in ["X", ("one",), ("box", "X"), kind]:
                self.check(classes, kind, other, "wide.X")
                self.check(classes, other, kind, "wide.X")
        self.assertEqual(told(Table(*classes), ("box", "X"), ("box", "X")), "within")

    def test_a_class_in_parents_of_these(self):
        for parent in [("wide", ("one",)), ("box", ("wide", ("one",))), ("box", ("box", ("wide", ("one",))))]:
            classes = [ONE, BOX, WIDE, bare("low", parent), bare("lower", ("low",))]
            self.check(classes, ("low",), ("low",), "wide.X")
            self.check(classes, ("one",), ("lower",), "wide.X")
            self.check(classes, ("box", ("lower",)), "X", "wide.X")
            self.assertEqual(told(Table(*classes), ("one",), ("box", ("one",))), "apart")

    def test_members_do_not_count(self):
        low = reading("low", "", ("wide", ("one",)))
        for table in [Table(ONE, BOX, DEEP), Table(ONE, BOX, DEEP, low[:3] + ((("a", "reads", ("deep", ("one",))),),))]:
            self.assertEqual(told(table, ("deep", "X"), ("deep", "X")), "within")
            self.assertEqual(told(table, ("deep", ("one",)), ("box", "X")), "apart")
        table = Table(ONE, BOX, WIDE, low)
        self.assertEqual(told(table, ("low",), ("low",)), "within")
        self.assertEqual(told(table, ("low",), ("box", ("one",))), "apart")
        self.check(table.classes, ("low",), ("wide", "X"), "wide.X")

    def test_a_cycle_with_a_step_of_a_member_does_not_count(self):
        low = ("low", (("X", "out"),), (("box", ("box", ("high", "X"))),), ())
        high = reading("high", "X", ("low", ("box", "X")))
        table = Table(ONE, BOX, low, high)
        self.assertEqual(told(table, ("low", "X"), ("high", "X")), "apart")
        self.assertEqual(told(table, ("low", "X"), ("box", ("box", ("high", "X")))), "within")

    def test_the_length_that_parents_give_counts(self):
        # The member would make the step of the parent longer than 0.
        same = ("same", (("X", "out"),), (("box", ("same", "X")),), (("a", "reads", ("same", ("box", "X"))),))
        self.assertEqual(told(Table(ONE, BOX, same), ("same", "X"), ("box", ("same", "X"))), "within")
        wide = ("same", (("X", "out"),), (("box", ("same", ("box", "X"))),), (("a", "reads", ("same", "X")),))
        self.check([ONE, BOX, wide], ("same", "X"), "X", "same.X")

    def test_the_first_of_the_shortest(self):
        a = ("a", (("X", "out"),), (("box", ("c", ("box", "X"))),), ())
        b = ("b", (("X", "out"),), (("box", ("c", ("box", "X"))),), ())
        c = ("c", (("X", "out"),), (("box", ("a", "X")), ("box", ("b", "X"))), ())
        for classes in [[ONE, BOX, a, b, c], [c, b, a, BOX, ONE]]:
            for kind in "abc":
                self.check(classes, (kind, "X"), "X", "a.X c.X")
        c = ("c", (("X", "out"),), (("box", ("a", "X")), ("box", ("c", ("b", "X")))), ())
        self.check([ONE, BOX, a, b, c], ("b", "X"), "X", "c.X")

    def test_only_what_is_reached(self):
        wider = ("far", (("X", "out"),), (("box", ("box", ("far", ("box", "X")))),), ())
        classes = [ONE, BOX, WIDE, wider]
        self.check(classes, ("wide", "X"), ("one",), "wide.X")
        self.check(classes, ("wide", "X"), ("far", "X"), "far.X")
        self.check(classes, ("far", "X"), ("box", "X"), "far.X")

    def test_ahead_of_too_many(self):
        table = Table(ONE, BOX, WIDE)
        self.assertEqual(told(table, chain(500, ("wide", "X")), chain(500)), Endless)
        self.assertEqual(told(table, chain(500), chain(500)), TooMany)


class TooManyTest(unittest.TestCase):
    def test_just_400_and_401_pairs(self):
        table = Table(ONE, BOX)
        for many, expected in [(398, "within"), (399, "within"), (400, TooMany), (401, TooMany), (6000, TooMany)]:
            self.assertEqual(told(table, chain(many), chain(many)), expected)
            self.assertEqual(told(table, chain(many, "X"), chain(many, "X")), expected)
            self.assertEqual(told(table, chain(many), chain(many, "X")), "apart" if many < 400 else TooMany)

    def test_for_reasons_and_shows_too(self):
        table = Table(ONE, BOX)
        rows = tuple((chain(at), chain(at)) for at in range(400))
        self.assertEqual(reasons(table, chain(399), chain(399)), (("within", rows),))
        self.assertIs(shows(table, chain(399), chain(399), ("within", rows)), True)
        for thing in [None, ("within", rows), ("within", rows + ((chain(400), chain(400)),)), ("apart", ())]:
            with self.assertRaises(TooMany):
                shows(table, chain(400), chain(400), thing)
        with self.assertRaises(TooMany):
            reasons(table, chain(400), chain(400))

    def test_pairs_count_once(self):
        twins = ("duo", (("X", "out"), ("Y", "out")), (), ())
        table = Table(ONE, BOX, twins)
        for many, expected in [(398, "within"), (399, TooMany)]:
            kind = ("duo", chain(many), chain(many))
            self.assertEqual(told(table, kind, kind), expected)
        for many, expected in [(198, "within"), (199, TooMany)]:
            kind = ("duo", chain(many), chain(many, "X"))
            self.assertEqual(told(table, kind, kind), expected)

    def test_pairs_of_ways_that_fail_do_not_count(self):
        row = ("row", (("X", "same"), ("Y", "out")), (), ())
        table = Table(ONE, TWO, BOX, row)
        self.assertEqual(told(table, ("row", ("one",), chain(500)), ("row", ("two",), chain(500))), "apart")
        self.assertEqual(told(table, ("row", ("one",), chain(500)), ("row", ("one",), chain(500))), TooMany)

    def test_all_that_are_reached_count(self):
        # The answer would be clear after the first pairs.
        table = Table(ONE, TWO, BOX, ("duo", (("X", "out"), ("Y", "out")), (), ()))
        one = ("duo", ("one",), chain(500))
        self.assertEqual(told(table, one, ("duo", ("two",), chain(500))), TooMany)
        self.assertEqual(told(table, one, ("duo", ("two",), ("two",))), "apart")

    def test_types_that_would_be_very_large(self):
        # Each ancestor has four times as many letters as the one before.
        full = ("duo", ("duo", "X", "X"), ("duo", "X", "X"))
        classes = [(name, (("X", "out"),), ((head, full),), ()) for name, head in ["ab", "bc"]]
        table = Table(ONE, DUO, ("c", (("X", "out"),), (full,), ()), *classes)
        kind = ("a", "X")
        for _ in range(4):
            kind = ("a", ("duo", kind, kind))
        for other in ancestors(table, kind):
            self.assertEqual(told(table, kind, other), "within")
        self.assertEqual(told(table, kind, ("c", "X")), "apart")


class WrongTest(unittest.TestCase):
    def test_letters_of_any_kind_but_one_capital(self):
        table = pair_table()
        for thing in ["", "x", "XY", "1", "@", "[", " ", "box", "X ", ("X",), ["X"], ("box", "x"), ("box", "XY")]:
            with self.assertRaises(NoType):
                ancestors(table, thing)
            for one, other in [(thing, "X"), ("X", thing), (thing, thing)]:
                with self.assertRaises(NoType):
                    answer(table, one, other)


if __name__ == "__main__":
    unittest.main()
