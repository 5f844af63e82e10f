"""What a type needs, layer by layer [30]."""

import itertools
import types
import unittest

import naive
from endlesskinds.needs import layers
from endlesskinds.tables import Table
from endlesskinds.types import size, text
from families import family
from helpers import BOX, CELL, DEEP, DUO, ONE, SINK, TWICE, bare, chain, pair_table, reading


def first(many, table, kind):
    return list(itertools.islice(layers(table, kind), many))


class LayersTest(unittest.TestCase):
    def test_the_type_alone_if_it_needs_nothing(self):
        self.assertEqual(list(layers(Table(ONE), ("one",))), [(("one",),)])
        self.assertEqual(list(layers(pair_table(), ("one",))), [(("one",),)])

    def test_a_generator_of_tuples(self):
        found = layers(pair_table(), ("box", ("one",)))
        self.assertIsInstance(found, types.GeneratorType)
        for layer in found:
            self.assertIsInstance(layer, tuple)
        self.assertEqual(list(found), [])

    def test_arguments(self):
        table = Table(ONE, DUO, SINK)
        self.assertEqual(list(layers(table, ("sink", ("sink", ("one",))))), [
            (("sink", ("sink", ("one",))),), (("sink", ("one",)),), (("one",),),
        ])
        self.assertEqual(list(layers(table, ("duo", ("sink", ("one",)), ("duo", ("one",), ("one",))))), [
            (("duo", ("sink", ("one",)), ("duo", ("one",), ("one",))),),
            (("duo", ("one",), ("one",)), ("sink", ("one",))),
            (("one",),),
        ])

    def test_declared_types_in_which_arguments_are_filled(self):
        self.assertEqual(list(layers(pair_table(), ("pair", ("box", ("one",)), ("one",)))), [
            (("pair", ("box", ("one",)), ("one",)),),
            (("box", ("box", ("one",))), ("box", ("one",)), ("one",)),
        ])
        odd = ("odd", (("Y", "same"), ("X", "same")), (("sink", "X"), ("cell", ("sink", "Y"))),
               (("a", "takes", "Y"), ("b", "holds", ("cell", ("one",)))))
        table = Table(bare("one"), SINK, CELL, odd, bare("two"))
        self.assertEqual(first(2, table, ("odd", ("one",), ("two",)))[1], (
            ("cell", ("one",)), ("cell", ("sink", ("one",))), ("one",), ("sink", ("two",)), ("two",),
        ))
        self.assertEqual(first(2, table, ("odd", ("two",), ("one",)))[1], (
            ("cell", ("one",)), ("cell", ("sink", ("two",))), ("one",), ("sink", ("one",)), ("two",),
        ))

    def test_arguments_are_filled_in_all_at_once(self):
        swap = reading("swap", "XY", ("swap", "Y", "X"), ("duo", ("duo", "Y", "X"), "Y"))
        table = Table(bare("one"), bare("two"), DUO, swap)
        self.assertEqual(first(3, table, ("swap", ("one",), ("two",))), [
            (("swap", ("one",), ("two",)),),
            (("duo", ("duo", ("two",), ("one",)), ("two",)), ("one",), ("swap", ("two",), ("one",)), ("two",)),
            (("duo", ("duo", ("one",), ("two",)), ("one",)), ("duo", ("two",), ("one",))),
        ])

    def test_nothing_that_was_in_a_tuple_before(self):
        ring = [reading("a", "", ("b",), ("a",)), reading("b", "", ("c",), ("a",)), reading("c", "", ("a",), ("b",))]
        self.assertEqual(list(layers(Table(*ring), ("b",))), [(("b",),), (("a",), ("c",))])
        self.assertEqual(list(layers(Table(*ring), ("a",))), [(("a",),), (("b",),), (("c",),)])
        same = reading("same", "X", ("same", "X"), ("same", ("one",)))
        self.assertEqual(list(layers(Table(ONE, same), ("same", ("one",)))), [(("same", ("one",)),), (("one",),)])

    def test_ascending_by_texts(self):
        classes = [bare("a"), bare("abc"), reading("aa", "X", ("abc",)), reading("b", "XY", ("ab", "X"), ("aa", "Y")),
                   reading("ab", "X", ("aa", "X"), ("ab", ("ab", "X")))]
        for order in itertools.permutations(classes):
            found = first(5, Table(*order), ("b", ("ab", ("abc",)), ("aa", ("a",))))
            texts = [[text(kind) for kind in layer] for layer in found]
            self.assertEqual(texts[:3], [
                ["b(ab(abc), aa(a))"],
                ["aa(a)", "aa(aa(a))", "ab(ab(abc))", "ab(abc)"],
                ["a", "aa(ab(abc))", "aa(abc)", "ab(ab(ab(abc)))", "abc"],
            ])
            for layer in texts:
                self.assertEqual(layer, sorted(set(layer)))

    def test_without_end(self):
        table = Table(ONE, BOX, DEEP)
        found = first(40, table, ("deep", ("one",)))
        self.assertEqual(found[0], (("deep", ("one",)),))
        self.assertEqual(found[1], (("deep", ("box", ("one",))), ("one",)))
        for number in range(2, 40):
            self.assertEqual(found[number], (chain(number - 1), ("deep", chain(number))))

    def test_types_that_double_in_size(self):
        table = Table(ONE, DUO, TWICE)
        found = first(13, table, ("twice", ("one",)))
        kind = ("one",)
        for number, layer in enumerate(found):
            self.assertIn(("twice", kind), layer)
            self.assertEqual(max(size(one) for one in layer), 2 ** (number + 1))
            kind = ("duo", kind, kind)

    def test_types_far_larger_than_can_be_written(self):
        found = first(300, Table(ONE, DUO, TWICE), ("twice", ("one",)))
        self.assertEqual([len(layer) for layer in found[:4]], [1, 2, 2, 2])
        self.assertEqual({len(layer) for layer in found[4:]}, {2})
        kind = found[-1][-1]
        steps = 0
        while len(kind) > 1:
            kind = kind[1]
            steps += 1
        self.assertEqual(steps, 300)

    def test_two_side_by_side(self):
        table = Table(ONE, DUO, BOX, TWICE, DEEP)
        kinds = [("twice", ("one",)), ("deep", ("one",)), ("twice", ("box", ("one",))), ("twice", ("one",))]
        expected = [first(9, table, kind) for kind in kinds]
        running = [layers(table, kind) for kind in kinds]
        found = [[] for _ in kinds]
        for _ in range(9):
            for number, one in enumerate(running):
                found[number].append(next(one))
        self.assertEqual(found, expected)

    def test_again_the_same(self):
        for table, kind in family(40):
            self.assertEqual(first(4, table, kind), first(4, table, kind))
            self.assertEqual(first(4, table, kind), list(itertools.islice(layers(table=table, kind=kind), 4)))

    def test_of_any_size(self):
        found = list(layers(pair_table(), chain(6000)))
        self.assertEqual(len(found), 6001)
        self.assertEqual(found[-3:], [(chain(2),), (chain(1),), (("one",),)])
        self.assertEqual(len(found[0]), 1)
        self.assertEqual(size(found[0][0]), 6001)
        self.assertEqual(size(found[2000][0]), 4001)

    def test_deep_types_in_order(self):
        fork = reading("fork", "XY", ("fork", ("box", "Y"), ("box", "X")))
        found = first(1500, Table(bare("one"), bare("two"), BOX, fork), ("fork", ("two",), ("one",)))
        self.assertEqual(found[1], (("fork", ("box", ("one",)), ("box", ("two",))), ("one",), ("two",)))
        for layer in found[2:]:
            self.assertEqual([kind[0] for kind in layer], ["box", "box", "fork"])
        ends = list(found[-1][:2])
        for _ in range(1498):
            ends = [kind[1] for kind in ends]
        self.assertEqual(ends, [("one",), ("two",)])

    def test_returned_types_passed_back(self):
        table = Table(ONE, DUO, TWICE)
        for layer in first(9, table, ("twice", ("one",))):
            for kind in layer:
                self.assertEqual(first(1, table, kind), [(kind,)])
                part = kind[1] if len(kind) > 1 else kind
                self.assertEqual(first(2, table, ("duo", part, kind)), [
                    (("duo", part, kind),), tuple(sorted({part, kind}, key=text)),
                ])

    def test_as_the_words_say(self):
        ended = 0
        for table, kind in family(200) + family(100, "ab", 2, 3):
            if naive.ends(table, kind):
                ended += 1
                found = list(layers(table, kind))
                self.assertEqual(found, naive.all_layers(table, kind))
                self.assertEqual({one for layer in found for one in layer}, naive.all_needs(table, kind))
        self.assertGreater(ended, 100)


if __name__ == "__main__":
    unittest.main()
