"""Whether what a type needs ends, and how deep it goes [31], [32]."""

import itertools
import unittest

import naive
from endlesskinds.endings import shows_verdict, steps, verdict
from endlesskinds.tables import Table
from endlesskinds.types import depth
from families import family
from helpers import BOX, CELL, DEEP, DUO, ONE, TWICE, anything, bare, chain, letters_and_values, pair_table, reading


def cycle(points):
    """A cycle told in short: points with a blank between two, each a name, a dot and a letter."""
    return tuple(tuple(point.split(".")) for point in points.split())


def ring(*names):
    """Classes each of which reads the next one, the last one the first one, one time widened."""
    classes = [reading(one, "X", (other, "X")) for one, other in zip(names, names[1:])]
    return classes + [reading(names[-1], "X", (names[0], (names[0], "X")))]


class EndlessTest(unittest.TestCase):
    def check(self, classes, kind, points):
        self.assertEqual(verdict(Table(*classes), kind), ("endless", cycle(points)))

    def test_of_the_overview(self):
        self.check([ONE, BOX, DEEP], ("deep", ("one",)), "deep.X")

    def test_reached_from_anywhere_in_the_type(self):
        for kind in [("box", ("deep", ("one",))), ("duo", ("one",), ("box", ("deep", ("one",)))),
                     ("duo", ("deep", ("one",)), ("one",)), ("deep", ("box", ("one",)))]:
            self.check([ONE, BOX, DUO, DEEP], kind, "deep.X")

    def test_reached_over_declared_types(self):
        for low in [bare("low", ("deep", ("one",))), bare("low", ("one",), ("box", ("deep", ("one",)))),
                    reading("low", "", ("deep", ("one",))), reading("low", "", ("one",), ("deep", ("one",)))]:
            self.check([ONE, BOX, DEEP, low], ("low",), "deep.X")
            self.check([ONE, BOX, DEEP, low, reading("odd", "X", ("low",))], ("odd", ("one",)), "deep.X")

    def test_by_steps_of_parents(self):
        other = ("other", (("X", "same"),), (), (("a", "holds", ("odd", ("box", "X"))),))
        odd = ("odd", (("X", "same"),), (("other", "X"),), ())
        self.check([ONE, BOX, other, odd], ("odd", ("one",)), "odd.X other.X")

    def test_one_step_longer_than_0_is_enough(self):
        self.check([ONE, *ring("c", "a", "b", "d")], ("b", ("one",)), "a.X b.X d.X c.X")
        self.check([ONE, *ring("c", "a", "b")], ("c", ("one",)), "a.X b.X c.X")

    def test_no_cycle_if_no_step_is_longer_than_0(self):
        swap = reading("swap", "XY", ("swap", "Y", "X"))
        same = reading("same", "X", ("same", "X"), ("box", ("same", "X")))
        self.assertEqual(verdict(Table(ONE, BOX, swap), ("swap", ("one",), ("box", ("one",)))), ("ends", 3))
        self.assertEqual(verdict(Table(ONE, BOX, same), ("same", ("one",))), ("ends", 3))

    def test_over_two_points_of_one_class(self):
        odd = reading("odd", "YX", ("odd", "X", ("box", "Y")))
        self.check([ONE, BOX, odd], ("odd", ("one",), ("one",)), "odd.X odd.Y")
        odd = reading("odd", "YX", ("odd", "Y", ("box", "X")))
        self.check([ONE, BOX, odd], ("odd", ("one",), ("one",)), "odd.X")
        odd = reading("odd", "YX", ("odd", ("box", "Y"), "X"))
        self.check([ONE, BOX, odd], ("odd", ("one",), ("one",)), "odd.Y")

    def test_a_cycle_that_is_not_reached_does_not_count(self):
        table = Table(ONE, BOX, DEEP, reading("odd", "X", ("deep", "X")))
        self.assertEqual(verdict(table, ("one",)), ("ends", 1))
        self.assertEqual(verdict(table, ("box", ("box", ("one",)))), ("ends", 3))
        self.assertEqual(verdict(table, ("odd", ("one",))), ("endless", cycle("deep.X")))

    def test_the_fewest_points_first(self):
        classes = [ONE, reading("a", "X", ("b", ("a", "X"))), reading("b", "X", ("a", "X"), ("z", ("one",))),
                   reading("z", "X", ("z", ("box", "X"))), BOX]
        self.check(classes, ("a", ("one",)), "z.X")
        self.check(classes, ("z", ("one",)), "z.X")
        self.check(classes[:2] + [reading("b", "X", ("a", "X"))] + classes[3:], ("a", ("one",)), "a.X b.X")

    def test_then_the_first_by_its_points(self):
        many = reading("many", "YX", ("many", ("box", "Y"), ("box", "X")))
        self.check([ONE, BOX, many], ("many", ("one",), ("one",)), "many.X")
        rings = [reading("a", "X", ("c", ("a", "X"))), reading("b", "X", ("c", ("b", "X"))),
                 reading("c", "X", ("a", "X"), ("b", "X"))]
        for order in itertools.permutations(rings):
            self.check([ONE, *order], ("c", ("one",)), "a.X c.X")
        rings = [reading("a", "X", ("c", "X"), ("b", "X")), reading("b", "X", ("a", ("b", "X"))),
                 reading("c", "X", ("a", ("c", "X")))]
        for order in itertools.permutations(rings):
            self.check([*order, ONE], ("c", ("one",)), "a.X b.X")

    def test_names_are_compared_as_texts(self):
        for first, second in [("a", "aa"), ("ab", "b"), ("box", "boxa")]:
            classes = [ONE, reading(second, "X", (second, (second, "X"))), reading(first, "X", (first, (second, "X")))]
            self.check(classes, (first, ("one",)), first + ".X")

    def test_the_letters_of_a_point_count(self):
        odd = reading("odd", "BA", ("odd", ("odd", "B", "B"), ("odd", "A", "A")))
        self.check([ONE, odd], ("odd", ("one",), ("one",)), "odd.A")


class EndsTest(unittest.TestCase):
    def check(self, classes, kind, deep):
        told = verdict(Table(*classes), kind)
        self.assertEqual(told, ("ends", deep))
        self.assertIs(type(told), tuple)
        self.assertIs(type(told[1]), int)

    def test_of_the_overview(self):
        self.check([ONE, BOX, DEEP], ("box", ("box", ("one",))), 3)

    def test_nothing_but_the_type_itself(self):
        self.check([ONE], ("one",), 1)
        self.check([ONE, BOX], ("box", ("one",)), 2)
        self.check([ONE, DUO], ("duo", ("duo", ("one",), ("one",)), ("one",)), 3)
        self.check([ONE, DUO], ("duo", ("one",), ("duo", ("one",), ("one",))), 3)
        self.check([ONE, BOX], chain(30), 31)

    def test_without_arguments_all_is_1_deep(self):
        self.check([ONE, bare("low", ("one",)), bare("lower", ("low",), ("one",))], ("lower",), 1)
        self.check([bare("odd"), reading("even", "", ("even",), ("odd",))], ("even",), 1)

    def test_declared_types_are_deeper(self):
        for low in [bare("low", ("box", ("box", ("one",)))), reading("low", "", ("box", ("box", ("one",)))),
                    reading("low", "", ("one",), ("box", ("box", ("one",)))), bare("low", ("one",), chain(2))]:
            self.check([ONE, BOX, low], ("low",), 3)
            self.check([ONE, BOX, low], ("box", ("low",)), 3)
            self.check([ONE, BOX, low], chain(2, ("low",)), 3)
            self.check([ONE, BOX, low], chain(3, ("low",)), 4)

    def test_lengths_are_added(self):
        wrap = reading("wrap", "X", chain(3, "X"))
        more = reading("more", "X", ("wrap", ("box", "X")))
        most = reading("most", "X", ("wrap", ("duo", ("one",), ("box", "X"))))
        self.check([ONE, BOX, wrap], ("wrap", ("one",)), 4)
        self.check([ONE, BOX, wrap], ("wrap", chain(5)), 9)
        self.check([ONE, BOX, wrap, more], ("more", chain(5)), 10)
        self.check([more, wrap, BOX, ONE], ("more", chain(5)), 10)
        self.check([ONE, BOX, wrap, DUO, most], ("most", chain(5)), 11)
        self.check([most, DUO, wrap, BOX, ONE], ("most", chain(5)), 11)

    def test_over_both_arguments(self):
        swap = reading("swap", "XY", ("swap", "Y", "X"), ("duo", chain(1, "Y"), chain(2, "X")))
        for one, other in itertools.product(range(4), repeat=2):
            deep = 1 + max(one + 1, other + 1) + 2
            self.check([ONE, BOX, DUO, swap], ("swap", chain(one), chain(other)), deep)

    def test_closed_parts_beside_a_letter(self):
        odd = reading("odd", "X", ("duo", "X", chain(4)))
        self.check([ONE, BOX, DUO, odd], ("odd", ("one",)), 6)
        self.check([ONE, BOX, DUO, odd], ("odd", chain(4)), 6)
        self.check([ONE, BOX, DUO, odd], ("odd", chain(5)), 7)
        odd = reading("odd", "X", ("box", ("duo", "X", chain(3))))
        self.check([ONE, BOX, DUO, odd], ("odd", ("one",)), 6)

    def test_what_is_not_reached_does_not_count(self):
        self.check([ONE, BOX, reading("odd", "X", chain(4, "X"))], ("box", ("one",)), 2)

    def test_over_long_ways_of_steps(self):
        for names in itertools.permutations("abcd"):
            classes = [reading(one, "X", (other, ("one",)), (other, (other, "X")))
                       for one, other in zip(names, names[1:])]
            table = Table(ONE, *sorted(classes), reading(names[-1], "X"))
            self.assertEqual(verdict(table, (names[0], ("one",))), ("ends", 5))

    def test_as_deep_as_the_deepest_type_that_is_needed(self):
        ended = 0
        for table, kind in family(300) + family(200, "ab", 2, 3):
            told = verdict(table, kind)
            self.assertEqual(told[0] == "ends", naive.ends(table, kind))
            self.assertEqual(verdict(table, kind), told)
            if told[0] == "ends":
                ended += 1
                self.assertEqual(told, ("ends", max(depth(one) for one in naive.all_needs(table, kind))))
        self.assertIn(ended, range(150, 350))

    def test_it_ends_exactly_if_finitely_many_types_are_needed(self):
        for table, kind in family(60) + family(40, "ab", 2, 3):
            self.assertEqual(verdict(table, kind)[0] == "ends", naive.all_needs(table, kind, 100) is not None)

    def test_of_any_size(self):
        table = pair_table() + DEEP
        self.assertEqual(verdict(table, chain(6000)), ("ends", 6001))
        self.assertEqual(verdict(table, chain(6000, ("deep", ("one",)))), ("endless", cycle("deep.X")))
        self.assertIs(shows_verdict(table, chain(6000), ("ends", 6001)), True)
        self.assertIs(shows_verdict(table, chain(6000), ("ends", 6000)), False)
        self.assertIs(shows_verdict(table, ("one",), ("ends", chain(6000))), False)
        self.assertIs(shows_verdict(table, ("deep", ("one",)), ("endless", chain(6000))), False)
        self.assertIs(shows_verdict(table, ("deep", ("one",)), (chain(6000), 1)), False)
        self.assertIs(shows_verdict(table, ("deep", ("one",)), chain(6000)), False)


class ShowsVerdictTest(unittest.TestCase):
    def test_the_depth_alone(self):
        table = Table(ONE, BOX, DEEP)
        for many in range(4):
            for deep in range(-1, 8):
                told = shows_verdict(table, chain(many), ("ends", deep))
                self.assertIs(told, deep == many + 1)
        self.assertIs(shows_verdict(table, ("one",), ("ends", True)), False)
        self.assertIs(shows_verdict(table, ("one",), ["ends", 1]), False)
        self.assertIs(shows_verdict(table, ("one",), ("ends",)), False)
        self.assertIs(shows_verdict(table, ("one",), ("ends", 1, 1)), False)
        self.assertIs(shows_verdict(table, ("one",), ("end", 1)), False)
        self.assertIs(shows_verdict(table, ("one",), (1, "ends")), False)
        self.assertIs(shows_verdict(table, ("one",), ("ends", (1,))), False)
        self.assertIs(shows_verdict(table, ("one",), ("ends", "1")), False)

    def test_neither_word_for_the_other(self):
        table = Table(ONE, BOX, DEEP)
        for thing in [("endless", ()), ("endless", cycle("deep.X")), ("endless", cycle("box.X")), ("endless", 1)]:
            self.assertIs(shows_verdict(table, ("one",), thing), False)
        for thing in [("ends", deep) for deep in range(5)] + [("ends", ()), ("ends", cycle("deep.X"))]:
            self.assertIs(shows_verdict(table, ("deep", ("one",)), thing), False)

    def test_from_each_of_its_points(self):
        table = Table(ONE, *ring("a", "b", "c", "d"))
        points = cycle("a.X b.X c.X d.X")
        for order in itertools.permutations(points):
            at = order.index(("a", "X"))
            self.assertIs(shows_verdict(table, ("c", ("one",)), ("endless", order)), order[at:] + order[:at] == points)
            self.assertIs(shows_verdict(table, ("c", ("one",)), ("endless", order[:3])), False)

    def test_every_cycle_that_is_reached(self):
        table = Table(ONE, BOX, reading("odd", "XY", ("odd", ("box", "Y"), ("box", "X")), ("odd", ("box", "X"), "Y")),
                      DEEP, reading("low", "X", ("low", "X"), ("odd", ("box", "X"), "X")))
        right = ["odd.X", "odd.X odd.Y", "odd.Y odd.X"]
        wrong = ["odd.Y", "low.X", "deep.X", "box.X", "odd.X box.X", "odd.X odd.X", "odd.X odd.Y odd.X",
                 "low.X odd.X", "odd.Z", "one.X", "odd.X.Y", "odd", "even.X"]
        for points in right + wrong:
            told = shows_verdict(table, ("low", ("one",)), ("endless", cycle(points)))
            self.assertIs(told, points in right, points)
        self.assertIs(shows_verdict(table, ("deep", ("one",)), ("endless", cycle("deep.X"))), True)
        self.assertIs(shows_verdict(table, ("deep", ("one",)), ("endless", cycle("odd.X"))), False)

    def test_one_of_its_steps_is_longer_than_0(self):
        table = Table(ONE, reading("a", "XY", ("b", "X"), ("a", "Y", ("b", "X"))), reading("b", "X", ("a", "X", "X")))
        kind = ("b", ("one",))
        found = {row[:2]: row[2] for row in steps(table)}
        self.assertEqual((found[cycle("a.X b.X")], found[cycle("b.X a.X")]), (0, 0))
        self.assertIs(shows_verdict(table, kind, ("endless", cycle("a.X b.X"))), False)
        self.assertIs(shows_verdict(table, kind, ("endless", cycle("b.X a.X"))), False)
        self.assertIs(shows_verdict(table, kind, ("endless", cycle("a.X a.Y"))), True)
        self.assertIs(shows_verdict(table, kind, ("endless", cycle("a.Y a.X"))), True)
        self.assertIs(shows_verdict(table, kind, ("endless", cycle("a.Y a.X b.X"))), False)

    def test_forms(self):
        table = Table(ONE, BOX, DEEP)
        kind = ("deep", ("one",))
        point = ("deep", "X")
        self.assertIs(shows_verdict(table, kind, ("endless", (point,))), True)
        for thing in [["endless", (point,)], ("endless", [point]), ("endless", (["deep", "X"],)), ("endless", point),
                      ("endless", ((point,),)), ("endless", (point, point)), ("endless", (point,), ()), ("endless",),
                      (("endless", (point,)),), ("endless", ()), ("endless", None), ("endless", {point: True}),
                      ("endless", {}), ("endless", (("deep", ["X"]),)), ("endless", (("deep", "X", "X"),)),
                      ("endless", "deep"), ("endless", 0), ("endless", (table,)), (table, (point,)), (point,), point,
                      (point, "endless"), ("Endless", (point,)), ("endless", (point,) * 3999), table,
                      ("endless", (point, [])), ("endless", ({}, point)), ("endless", (point, ("deep", [])))]:
            self.assertIs(shows_verdict(table, kind, thing), False)

    def test_any_value(self):
        table = Table(ONE, BOX, DEEP)
        for thing in anything() + letters_and_values():
            for kind in [("one",), ("deep", ("one",))]:
                for value in [thing, ("ends", thing), ("endless", thing), ("endless", (thing,)), (thing, 1),
                              (thing, cycle("deep.X")), ("endless", (("deep", thing),)), ("endless", ((thing, "X"),))]:
                    if value in [("ends", 1), ("endless", cycle("deep.X"))] and thing is not True:
                        continue
                    self.assertIs(shows_verdict(table, kind, value), False)

    def test_as_the_words_say(self):
        for table, kind in family(120) + family(60, "ab", 2, 3):
            found = set(itertools.islice(naive.cycles(table, kind), 200))
            points = [(one[0], letter) for one in table.classes for letter, _ in one[1]]
            for many in range(4):
                for order in itertools.permutations(points, many):
                    told = shows_verdict(table, kind, ("endless", order))
                    self.assertIs(told, order in found)
            told = verdict(table, kind)
            self.assertIs(shows_verdict(table, kind, told), True)
            self.assertIs(shows_verdict(table=table, kind=kind, thing=told), True)
            if found:
                first = min(found, key=lambda points: (len(points), points))
                self.assertEqual(told, ("endless", first))

    def test_what_verdict_returned_with_parts_changed(self):
        table = Table(ONE, BOX, TWICE, DUO, CELL)
        told = verdict(table, ("twice", ("one",)))
        self.assertEqual(told, ("endless", cycle("twice.X")))
        for thing in [told[:1], told[1:], told + told, told[::-1], (told[0], told[1] * 2), (told[0], told[1][:0]),
                      (told[0], told[1][0]), (told[0], (told[1][0][::-1],)), list(told), (told,)]:
            self.assertIs(shows_verdict(table, ("twice", ("one",)), thing), False)


if __name__ == "__main__":
    unittest.main()
