"""All that a type needs, and why [33]."""

import itertools
import unittest

import naive
from endlesskinds.endings import verdict
from endlesskinds.errors import Endless, TooMany
from endlesskinds.needs import layers, needs, why
from endlesskinds.tables import Table
from endlesskinds.types import size, text
from families import family
from helpers import BOX, CELL, DEEP, DUO, ONE, SINK, TWICE, bare, chain, pair_table, reading

# From box(k) it needs k, cell(k) and sink(k).
BOXES = ("box", (("X", "same"),), (("cell", "X"), ("sink", "X")), ())


def boxes():
    return Table(ONE, BOXES, ("cell", (("X", "same"),), (), ()), ("sink", (("X", "same"),), (), ()), DUO)


class NeedsTest(unittest.TestCase):
    def test_of_the_overview(self):
        table = Table(ONE, BOX, DEEP)
        expected = (("box", ("box", ("one",))), ("box", ("one",)), ("one",))
        self.assertEqual(needs(table, ("box", ("box", ("one",)))), expected)

    def test_the_type_alone(self):
        self.assertEqual(needs(Table(ONE), ("one",)), (("one",),))
        self.assertEqual(needs(pair_table(), ("one",)), (("one",),))

    def test_arguments_parents_and_members(self):
        table = pair_table() + CELL
        self.assertEqual(needs(table, ("pair", ("cell", ("one",)), ("one",))), (
            ("box", ("cell", ("one",))), ("box", ("one",)), ("cell", ("one",)), ("one",),
            ("pair", ("cell", ("one",)), ("one",)),
        ))

    def test_ascending_by_texts(self):
        classes = [bare("abc"), bare("ab"), reading("a", "X", ("abc",), ("ab",)), reading("abcd", "XY"),
                   reading("b", "", ("abcd", ("ab",), ("a", ("a", ("abc",)))))]
        for order in itertools.permutations(classes):
            found = needs(Table(*order), ("b",))
            self.assertEqual([text(kind) for kind in found], [
                "a(a(abc))", "a(abc)", "ab", "abc", "abcd(ab, a(a(abc)))", "b",
            ])
            self.assertIsInstance(found, tuple)

    def test_rings_that_do_not_widen_end(self):
        swap = reading("swap", "XY", ("swap", "Y", "X"))
        table = Table(bare("one"), bare("two"), swap)
        self.assertEqual(needs(table, ("swap", ("two",), ("one",))), (
            ("one",), ("swap", ("one",), ("two",)), ("swap", ("two",), ("one",)), ("two",),
        ))

    def test_endless_has_the_cycle_of_the_verdict(self):
        table = Table(ONE, BOX, DEEP, reading("odd", "YX", ("odd", ("box", "Y"), ("box", "X"))))
        for kind in [("deep", ("one",)), ("odd", ("one",), ("one",)), ("odd", ("deep", ("one",)), ("one",)),
                     ("box", ("odd", ("one",), ("deep", ("one",))))]:
            with self.assertRaises(Endless) as caught:
                needs(table, kind)
            self.assertEqual(("endless", caught.exception.cycle), verdict(table, kind))

    def test_as_the_words_say(self):
        endless = 0
        for table, kind in family(250) + family(150, "ab", 2, 3) + family(100, "abcd", 1, 3):
            if naive.ends(table, kind):
                self.assertEqual(needs(table, kind), tuple(sorted(naive.all_needs(table, kind), key=text)))
                self.assertEqual(needs(table=table, kind=kind), needs(table, kind))
            else:
                endless += 1
                with self.assertRaises(Endless) as caught:
                    needs(table, kind)
                self.assertEqual(caught.exception.cycle, next(naive.cycles(table, kind)))
        self.assertIn(endless, range(150, 350))


class LimitsTest(unittest.TestCase):
    """What is too many or too large: for needs, and for why in the same way."""

    def told(self, table, kind, many, largest):
        found = needs(table, kind)
        self.assertEqual((len(found), max(size(one) for one in found)), (many, largest))
        self.assertEqual(set(found), {one for layer in layers(table, kind) for one in layer})
        self.assertEqual([text(one) for one in found], sorted(text(one) for one in found))
        self.assertEqual(why(table, kind, kind), (kind,))
        self.assertIsNotNone(why(table, kind, ("one",)))

    def too_many(self, table, kind):
        with self.assertRaises(TooMany):
            needs(table, kind)
        for other in [kind, ("one",), ("box", ("one",)), chain(70)]:
            with self.assertRaises(TooMany):
                why(table, kind, other)

    def test_just_100_and_101_types(self):
        self.told(boxes(), chain(33), 100, 34)
        self.too_many(boxes(), ("cell", chain(33)))
        self.too_many(boxes(), chain(34))
        self.told(boxes(), ("cell", ("cell", chain(32))), 99, 35)
        self.told(boxes(), ("cell", ("cell", ("cell", chain(32)))), 100, 36)
        self.too_many(boxes(), ("cell", ("cell", ("cell", ("cell", chain(32))))))

    def test_the_last_layer_counts(self):
        low = reading("low", "", chain(4), ("duo", ("cell", ("one",)), ("one",)))
        box = ("box", (("X", "same"),), (("cell", "X"),), ())
        table = Table(ONE, box, ("cell", (("X", "same"),), (), ()), DUO, low)
        self.told(table, ("low",), 11, 5)
        self.told(table, ("duo", chain(45), ("low",)), 94, 48)
        self.told(table, ("duo", chain(48), ("low",)), 100, 51)
        self.too_many(table, ("duo", chain(49), ("low",)))
        self.too_many(table, ("cell", ("duo", chain(48), ("low",))))

    def test_a_size_of_just_60_and_of_61(self):
        table = Table(ONE, BOX, DUO)
        self.told(table, chain(59), 60, 60)
        self.too_many(table, chain(60))
        self.told(table, ("duo", chain(28), chain(29)), 31, 60)
        self.too_many(table, ("duo", chain(29), chain(29)))
        self.too_many(table, ("duo", chain(28), chain(30)))

    def test_the_size_of_a_type_that_is_needed_later(self):
        for declared, many, largest in [(("duo", "X", ("box", "X")), 32, 60), (("duo", "X", "X"), 31, 59)]:
            table = Table(ONE, BOX, DUO, reading("more", "X", declared))
            self.told(table, ("more", chain(28)), many, largest)
            self.too_many(table, ("more", chain(29)))
            self.too_many(table, ("box", ("more", chain(29))))

    def test_types_that_would_be_very_large(self):
        growing = [reading(one, "X", (other, ("duo", "X", ("duo", "X", "X")))) for one, other in ["ab", "bc"]]
        table = Table(ONE, DUO, *growing, reading("c", "X", ("duo", ("duo", "X", "X"), ("duo", "X", "X"))))
        self.told(table, ("b", ("one",)), 7, 23)
        kind = ("one",)
        for _ in range(13):
            kind = ("duo", kind, kind)
        for large in [kind, ("a", kind), ("a", ("one",)), ("c", ("a", ("b", ("c", ("one",)))))]:
            with self.assertRaises(TooMany):
                needs(table, large)
            with self.assertRaises(TooMany):
                why(table, large, ("one",))
        self.assertIsNone(why(table, ("one",), kind))

    def test_deeper_than_calls_may_be(self):
        self.too_many(pair_table(), chain(6000))
        self.assertIsNone(why(pair_table(), chain(3), chain(6000)))
        self.assertIsNone(why(pair_table(), ("one",), chain(6000)))

    def test_endless_ahead_of_too_many(self):
        table = Table(ONE, BOX, DEEP, DUO, TWICE)
        for kind in [("deep", chain(80)), chain(80, ("deep", ("one",))), ("duo", chain(200), ("deep", ("one",)))]:
            with self.assertRaises(Endless) as caught:
                needs(table, kind)
            self.assertEqual(caught.exception.cycle, (("deep", "X"),))
            for other in [kind, ("one",), ("twice", ("one",))]:
                with self.assertRaises(Endless) as caught:
                    why(table, kind, other)
                self.assertEqual(caught.exception.cycle, (("deep", "X"),))


class WhyTest(unittest.TestCase):
    def check(self, table, kind, other, texts):
        told = why(table, kind, other)
        if texts is None:
            self.assertIsNone(told)
        else:
            self.assertIsInstance(told, tuple)
            self.assertEqual([text(one) for one in told], texts)

    def test_one_type_where_both_are_the_same(self):
        for kind in [("one",), ("box", ("one",)), ("pair", ("one",), ("one",))]:
            self.assertEqual(why(pair_table(), kind, kind), (kind,))

    def test_from_one_to_the_other(self):
        table = pair_table()
        self.check(table, ("box", ("one",)), ("one",), ["box(one)", "one"])
        self.check(table, ("box", ("box", ("one",))), ("one",), ["box(box(one))", "box(one)", "one"])
        self.check(table, ("pair", ("one",), ("box", ("one",))), ("box", ("box", ("one",))),
                   ["pair(one, box(one))", "box(box(one))"])

    def test_none_if_it_is_not_needed(self):
        table = pair_table()
        self.check(table, ("one",), ("box", ("one",)), None)
        self.check(table, ("box", ("one",)), ("box", ("box", ("one",))), None)
        self.check(table, ("pair", ("one",), ("one",)), ("pair", ("one",), ("box", ("one",))), None)

    def test_a_loop_leads_back(self):
        ring = [reading("a", "", ("b",)), reading("b", "", ("c",)), reading("c", "", ("a",))]
        table = Table(*ring)
        self.check(table, ("b",), ("a",), ["b", "c", "a"])
        self.check(table, ("b",), ("b",), ["b"])

    def test_the_shortest_first(self):
        low = reading("low", "", ("box", ("cell", ("box", ("one",)))), ("sink", ("one",)))
        table = Table(ONE, BOX, CELL, low, SINK)
        self.check(table, ("low",), ("one",), ["low", "sink(one)", "one"])

    def test_then_the_first_by_texts(self):
        for names in itertools.permutations(["aa", "ab", "b"]):
            left, right, low = names
            table = Table(ONE, reading(left, "X"), reading(right, "X"), reading(low, "XY", (left, "X"), (right, "Y")))
            kind = (low, (right, ("one",)), (left, ("one",)))
            shortest = [[low, one, "one"] for one in [f"{left}(one)", f"{right}(one)"]]
            self.check(table, kind, ("one",), [text(kind)] + sorted(shortest)[0][1:])

    def test_the_first_type_that_is_unlike_decides(self):
        # Both ways have four types: over a(..) the later one is b(one), over b(..) it is a(one).
        low = reading("low", "", ("a", ("b", ("one",))), ("b", ("a", ("one",))))
        for order in itertools.permutations([ONE, reading("a", "X"), reading("b", "X"), low]):
            self.check(Table(*order), ("low",), ("one",), ["low", "a(b(one))", "b(one)", "one"])

    def test_over_declared_types(self):
        low = ("low", (), (("cell", ("two",)),), (("a", "takes", ("sink", ("two",))),))
        table = Table(low, SINK, CELL, bare("two", ("three",)), bare("three"))
        self.check(table, ("low",), ("three",), ["low", "cell(two)", "two", "three"])
        self.check(table, ("sink", ("low",)), ("two",), ["sink(low)", "low", "cell(two)", "two"])

    def test_as_the_words_say(self):
        asked = 0
        for table, kind in family(250) + family(150, "ab", 2, 3) + family(100, "abcd", 1, 3):
            if not naive.ends(table, kind):
                continue
            ways = naive.first_ways(table, kind)
            self.assertEqual(set(ways), naive.all_needs(table, kind))
            for other in sorted(ways) + [("one",), ("a", ("one",))]:
                if other in table:
                    asked += 1
                    self.assertEqual(why(table, kind, other), ways.get(other))
        self.assertGreater(asked, 500)
        self.assertEqual(why(table=table, kind=("one",), other=("one",)), (("one",),))
        self.assertEqual(why(other=("one",), kind=("one",), table=table), (("one",),))


if __name__ == "__main__":
    unittest.main()
