"""What to leave out so that what a type needs ends [34]."""

import itertools
import unittest

import naive
from endlesskinds.endings import verdict
from endlesskinds.mends import mend, shows_mend
from endlesskinds.tables import Table
from families import family
from helpers import (
    BOX, CELL, DEEP, DUO, ONE, PAIR, SINK, TWICE, anything, bare, chain, letters_and_values, pair_table, reading,
)


def grow(name, *others):
    """A type of a class, above which there is one of the same class."""
    return (name, (name, "X"), *others)


class MendTest(unittest.TestCase):
    def check(self, classes, kind, *expected):
        table = Table(*classes)
        told = mend(table, kind)
        self.assertEqual(told, expected)
        self.assertIsInstance(told, tuple)
        self.assertIs(shows_mend(table, kind, told), True)
        for number in range(len(told)):
            self.assertIs(shows_mend(table, kind, told[:number] + told[number + 1:]), False)

    def test_nothing_if_it_ends_as_it_is(self):
        self.check([ONE], ("one",))
        self.check([ONE, BOX, PAIR], ("pair", ("one",), chain(5)))
        self.check([ONE, BOX, DEEP], ("box", ("one",)))
        self.check([ONE, reading("swap", "XY", ("swap", "Y", "X"))], ("swap", ("one",), ("one",)))

    def test_the_one_place_that_widens(self):
        self.check([ONE, BOX, DEEP], ("deep", ("one",)), ("deep", 0))
        self.check([ONE, DUO, TWICE], ("twice", ("one",)), ("twice", 0))
        odd = reading("odd", "X", ("one",), ("deep", "X"))
        self.check([ONE, BOX, DEEP, odd], ("box", ("deep", ("one",))), ("deep", 0))
        self.check([ONE, BOX, DEEP, odd], ("odd", ("deep", ("one",))), ("deep", 0))

    def test_places_are_numbered_with_the_parents_ahead(self):
        wide = ("odd", ("box", "X"))
        for parents, members in itertools.product(range(3), repeat=2):
            for at in range(members):
                kinds = [("b", "holds", ("one",)) for _ in range(members)]
                kinds[at] = ("b", "holds", wide)
                kinds = tuple((name,) + kind[1:] for name, kind in zip("ab", kinds))
                odd = ("odd", (("X", "same"),), (("box", "X"),) * parents, kinds)
                self.check([ONE, BOX, odd], ("odd", ("one",)), ("odd", parents + at))

    def test_a_parent_may_be_left_out(self):
        other = reading("other", "X", ("odd", ("box", "X")), ("odd", ("box", ("box", "X"))))
        for at in range(2):
            parents = [("one",), ("one",)]
            parents[at] = ("other", "X")
            odd = ("odd", (("X", "out"),), tuple(parents), ())
            self.check([ONE, BOX, other, odd], ("odd", ("one",)), ("odd", at))

    def test_the_first_of_two_that_do(self):
        for low, deep in itertools.permutations(["a", "b"]):
            classes = [ONE, BOX, reading(low, "", (deep, ("one",))), reading(deep, "X", (deep, ("box", "X")))]
            self.check(classes, (low,), ("a", 0))
        ring = [reading("b", "X", ("c", ("b", "X"))), reading("c", "X", ("a", "X")), reading("a", "X", ("b", "X"))]
        for order in itertools.permutations(ring):
            self.check([ONE, *order], ("c", ("one",)), ("a", 0))
        both = reading("odd", "XY", ("odd", ("box", "X"), "Y"), ("box", "X"))
        self.check([ONE, BOX, both], ("odd", ("one",), ("one",)), ("odd", 0))

    def test_what_is_left_out_is_not_reached_over_either(self):
        low = reading("low", "", ("box", ("box", ("deep", ("one",)))))
        more = reading("deep", "X", grow("deep"), ("deep", ("box", "X")))
        self.check([ONE, BOX, low, more], ("low",), ("low", 0))
        self.check([ONE, BOX, low, more], ("deep", ("low",)), ("deep", 0), ("deep", 1))

    def test_the_fewest_first(self):
        # One place leads to b, which has two that widen it and come first.
        first = reading("b", "X", ("b", ("box", "X")), grow("b"))
        self.check([ONE, BOX, first, reading("z", "X", ("b", "X"))], ("z", ("one",)), ("z", 0))
        # Two places lead to b.
        last = reading("z", "X", ("b", "X"), ("b", ("one",)))
        self.check([ONE, BOX, first, last], ("z", ("one",)), ("b", 0), ("b", 1))
        other = reading("a", "X", ("b", "X"), ("b", ("one",)))
        self.check([ONE, BOX, first, other], ("a", ("one",)), ("a", 0), ("a", 1))

    def test_many_places(self):
        names = ["a", "b", "c", "d"]
        classes = [reading(name, "X", grow(name), (name, grow(name))) for name in names]
        kind = ("one",)
        for name in names:
            kind = (name, kind)
        self.check([ONE, *classes], kind, *[(name, number) for name in names for number in range(2)])

    def test_many_places_among_many(self):
        # The members widen, but for the one of z that brings nothing in again.
        classes = [("z", (("X", "same"),), (), (("a", "holds", grow("z")), ("b", "holds", ("z", ("one",)))))]
        for name in ["y", "x", "w"]:
            parents = (("z", (name, "X")), ("z", ("z", (name, "X"))))
            members = (("a", "holds", grow(name)), ("b", "holds", (name, ("z", "X"))))
            classes.append((name, (("X", "same"),), parents, members))
        kind = ("w", ("x", ("y", ("z", ("one",)))))
        self.check([ONE, *classes], kind, ("w", 2), ("w", 3), ("x", 2), ("x", 3), ("y", 2), ("y", 3), ("z", 0))

    def test_two_rings_with_a_place_in_common(self):
        classes = [ONE, reading("a", "X", ("b", ("a", "X"))), reading("b", "X", ("a", "X"), ("c", "X")),
                   reading("c", "X", ("b", ("c", "X")))]
        self.check(classes, ("a", ("one",)), ("a", 0))
        self.check(classes, ("b", ("one",)), ("a", 0), ("b", 1))
        self.check(classes[:3] + [reading("c", "X", ("a", ("c", "X")))], ("c", ("one",)), ("a", 0))

    def test_one_declared_type_that_makes_many_steps(self):
        both = ("odd", ("odd", "X", "Y"), ("odd", "Y", "X"))
        self.check([ONE, reading("odd", "YX", both)], ("odd", ("one",), ("one",)), ("odd", 0))
        self.check([ONE, reading("odd", "YX", "X", both)], ("odd", ("one",), ("one",)), ("odd", 1))

    def test_as_the_words_say(self):
        many = {}
        for table, kind in family(250, "ab") + family(150, "ab", 2, 3) + family(200, "abc", 1, 3) + family(60):
            if len(naive.places(table)) > 8:
                continue
            told = mend(table, kind)
            self.assertEqual(told, naive.first_mend(table, kind))
            self.assertEqual(mend(table=table, kind=kind), told)
            many[len(told)] = many.get(len(told), 0) + 1
        self.assertGreater(min(many[0], many[1]), 100)
        self.assertGreater(many[2], 30)
        self.assertIn(3, many)


class ShowsMendTest(unittest.TestCase):
    def test_places_in_any_order_and_of_any_length(self):
        odd = reading("odd", "X", grow("odd"), ("odd", ("box", "X")))
        table = Table(ONE, BOX, odd, reading("low", "X", ("odd", "X")))
        kind = ("low", ("one",))
        right = [{("low", 0)}, {("odd", 0), ("odd", 1)}]
        places = [("box", 0), ("low", 0), ("odd", 0), ("odd", 1)]
        for many in range(5):
            for order in itertools.permutations(places, many):
                told = shows_mend(table, kind, order)
                self.assertIs(told, any(one <= set(order) for one in right), order)
        self.assertIs(shows_mend(table, ("one",), tuple(places)), True)

    def test_the_empty_one_if_it_ends(self):
        table = Table(ONE, BOX, DEEP)
        self.assertIs(shows_mend(table, ("one",), ()), True)
        self.assertIs(shows_mend(table, ("deep", ("one",)), ()), False)
        for thing in [[], {}, None, "", 0, False, ((),)]:
            self.assertIs(shows_mend(table, ("one",), thing), False)

    def test_the_places_are_different(self):
        table = Table(ONE, BOX, DEEP)
        for places in [(("deep", 0),), (("box", 0), ("deep", 0)), (("deep", 0), ("box", 0))]:
            self.assertIs(shows_mend(table, ("deep", ("one",)), places), True)
            self.assertIs(shows_mend(table, ("deep", ("one",)), places + places[:1]), False)
            self.assertIs(shows_mend(table, ("deep", ("one",)), places * 2), False)
            self.assertIs(shows_mend(table, ("one",), places * 2000), False)

    def test_places_that_the_table_has(self):
        table = pair_table() + DEEP + SINK
        right = [("box", 0), ("deep", 0), ("pair", 0), ("pair", 1), ("pair", 2), ("pair", 3), ("sink", 0)]
        for name in ["one", "box", "deep", "pair", "sink", "cell", "", "X", "Box", None, 0, True,
                     ("deep",), ["deep"], {}]:
            for number in [-2, -1, 0, 1, 2, 3, 4, 5, 10 ** 12, True, False, None, "0", (0,), [0], {}, "X"]:
                place = (name, number)
                known = place in right and number is not True and number is not False
                self.assertIs(shows_mend(table, ("one",), (place,)), known, place)
                told = shows_mend(table, ("deep", ("one",)), (("deep", 0), place))
                self.assertIs(told, known and place != ("deep", 0))

    def test_bools_are_no_numbers(self):
        table = Table(ONE, reading("odd", "X", grow("odd"), grow("odd")))
        kind = ("odd", ("one",))
        self.assertIs(shows_mend(table, kind, (("odd", 0), ("odd", 1))), True)
        self.assertIs(shows_mend(table, kind, (("odd", False), ("odd", 1))), False)
        self.assertIs(shows_mend(table, kind, (("odd", 0), ("odd", True))), False)
        self.assertIs(shows_mend(table, kind, (("odd", 0), ("odd", 1), ("odd", True))), False)

    def test_forms(self):
        table = Table(ONE, BOX, DEEP)
        place = ("deep", 0)
        for kind in [("deep", ("one",)), ("one",)]:
            self.assertIs(shows_mend(table, kind, (place,)), True)
            for thing in [place, [place], ([*place],), (place, None), (place, ()), (place, []), (None, place),
                          ((place,),), {place: 0}, {0: place}, (("deep", 0, 0),), (("deep",),), ((0, "deep"),),
                          "deep", ("deep 0",), (table,), (place, table), table, ((table, 0),), (("deep", table),),
                          (place,) * 3000, (place, "box")]:
                self.assertIs(shows_mend(table, kind, thing), False)

    def test_any_value(self):
        table = Table(ONE, BOX, DEEP)
        for thing in anything() + letters_and_values():
            for value in [thing, (thing,), (("deep", 0), thing), (("deep", thing),), ((thing, 0),)]:
                if value == () or (value == (("deep", 0),) and thing is not False):
                    continue
                self.assertIs(shows_mend(table, ("deep", ("one",)), value), False)
                self.assertIs(shows_mend(table, ("one",), value), False)

    def test_of_any_size(self):
        table = pair_table() + DEEP
        for kind in [chain(6000), chain(6000, ("deep", ("one",)))]:
            ends = verdict(table, kind)[0] == "ends"
            self.assertEqual(mend(table, kind), () if ends else (("deep", 0),))
            self.assertIs(shows_mend(table, kind, (("deep", 0),)), True)
            for thing in [kind, (kind,), (("deep", 0), kind), ((kind, 0),), (("deep", kind),)]:
                self.assertIs(shows_mend(table, kind, thing), False)

    def test_what_mend_returned_with_parts_changed(self):
        table = Table(bare("one"), CELL, reading("odd", "X", grow("odd"), ("odd", ("cell", "X"))))
        kind = ("odd", ("one",))
        told = mend(table, kind)
        self.assertEqual(told, (("odd", 0), ("odd", 1)))
        for thing in [told[::-1], told + (("cell", 0),), (("cell", 0),) + told]:
            self.assertIs(shows_mend(table, kind, thing), True)
        for thing in [told[:1], told[1:], told + told[:1], list(told), (told,), told[0], (told[0][::-1], told[1]),
                      (told[0], ("odd", 2)), (told[0], ("cell", 1)), (told[0], ("cell", 0)), (told[0] + told[1],)]:
            self.assertIs(shows_mend(table, kind, thing), False)

    def test_as_the_words_say(self):
        for table, kind in family(100, "ab") + family(60, "abc", 1, 3):
            places = naive.places(table)
            for many in range(3):
                for left_out in itertools.combinations(places, many):
                    ends = naive.ends(table, kind, left_out)
                    self.assertIs(shows_mend(table, kind, left_out), ends)
                    self.assertIs(shows_mend(table=table, kind=kind, thing=left_out[::-1]), ends)


if __name__ == "__main__":
    unittest.main()
