"""What shows that an answer is right [42]."""

import itertools
import unittest

import plain
from endlesskinds.errors import Endless, TooMany
from endlesskinds.tables import Table
from endlesskinds.within import answer, reasons, shows
from families import Dice, graded, questions, turned_questions, turning, winding
from helpers import BOX, CELL, ONE, SINK, TWO, anything, bare, chain, letters_and_values, pair_table

ODD = bare("odd", ("sink", ("sink", ("odd",))))
LOW = bare("low", ("one",))
WIDE = ("wide", (("X", "out"),), (("box", ("box", ("wide", ("wide", "X")))),), ())
WORDS = ("within", "apart", "not", "open")
ROUND = (("odd",), ("sink", ("odd",)))


def table_of_lows():
    return Table(ONE, TWO, BOX, SINK, LOW)


def asked():
    """Many tables, each with pairs of its types about which answers are told, and the answers."""
    rows = [(table, questions(table, at, 8)) for at, table in enumerate(graded(80) + graded(60, "ab"))]
    rows += [(table, questions(table, at, 8, ["X", ("p",), ("q",)])) for at, table in enumerate(winding(60))]
    rows += [(table, turned_questions()) for table in turning(15)]
    for table, pairs in rows:
        for one, other in pairs:
            try:
                yield table, one, other, answer(table, one, other)
            except (Endless, TooMany):
                continue


class ReasonsTest(unittest.TestCase):
    def test_of_the_overview(self):
        table = Table(SINK, ODD)
        self.assertEqual(reasons(table, *ROUND), (("not", (ROUND,)), ("open", (ROUND,))))

    def test_of_a_pair_that_asks_nothing(self):
        table = pair_table() + TWO
        for kind in ["X", ("one",), ("two",)]:
            self.assertEqual(reasons(table, kind, kind), (("within", ((kind, kind),)),))
        self.assertEqual(reasons(table, "X", "Y"), (("apart", (("X", "Y"),)),))
        self.assertEqual(reasons(table, ("one",), ("two",)), (("apart", ((("one",), ("two",)),)),))

    def test_pairs_behind_those_that_they_ask(self):
        low, one = ("low",), ("one",)
        rows = ((low, one), (("sink", one), ("sink", low)), (("box", ("sink", one)), ("box", ("sink", low))))
        self.assertEqual(reasons(table_of_lows(), *rows[-1]), (("within", rows),))
        rows = ((one, low), (("sink", low), ("sink", one)))
        self.assertEqual(reasons(table_of_lows(), *rows[-1]), (("apart", rows),))

    def test_words_kinds_and_pairs(self):
        expected = {"within": ["within"], "apart": ["apart"], "round": ["not", "open"]}
        told = {word: 0 for word in WORDS}
        for table, one, other, word in asked():
            found = reasons(table, one, other)
            self.assertIsInstance(found, tuple)
            self.assertEqual([reason[0] for reason in found], expected[word])
            for reason in found:
                told[reason[0]] += 1
                self.assertIs(type(reason), tuple)
                self.assertIs(type(reason[1]), tuple)
                self.assertEqual({(type(row), len(row)) for row in reason[1]}, {(tuple, 2)})
                self.assertTrue(plain.shows(table, one, other, *reason))
                self.assertIs(shows(table, one, other, reason), True)
        self.assertGreater(min(told.values()), 40)


class ShowsTest(unittest.TestCase):
    def check(self, table, pair, word, rows, expected):
        self.assertIs(shows(table, *pair, (word, tuple(rows))), expected)

    def test_only_what_the_answer_allows(self):
        table = Table(ONE, BOX, SINK, LOW, ODD)
        inner = (("low",), ("one",))
        pair = (("box", ("low",)), ("box", ("one",)))
        for rows, right in [
            ([inner, pair], ["within"]), ([pair, inner], ["open"]), ([inner[::-1], pair[::-1]], ["apart"]),
            ([pair[::-1], inner[::-1]], ["not"]), ([ROUND], ["not", "open"]),
        ]:
            asked_for = [row for row in rows if row not in (inner, inner[::-1])][0]
            for word in WORDS:
                self.check(table, asked_for, word, rows, word in right)

    def test_something_of_the_form_not_or_open(self):
        for table, one, other, word in asked():
            found = plain.reached(table, one, other)
            left = [sorted(set(found) - plain.least(found, holds), key=plain.by_texts)
                    for holds in (plain.is_within, plain.is_apart)]
            self.check(table, (one, other), "not", left[0], word != "within")
            self.check(table, (one, other), "open", left[1], word != "apart")

    def test_the_last_row_is_the_pair(self):
        low, one = ("low",), ("one",)
        rows = [(low, one), (("box", low), ("box", one))]
        table = table_of_lows()
        self.check(table, rows[1], "within", rows, True)
        self.check(table, rows[1], "within", rows + [(one, one)], False)
        self.check(table, rows[1], "within", rows[:1], False)
        self.check(table, rows[0], "within", rows, False)
        self.check(table, rows[1], "within", [], False)
        self.check(table, rows[1], "apart", [], False)
        self.check(table, rows[0][::-1], "within", rows, False)
        self.check(table, rows[1][::-1], "within", rows, False)

    def test_by_pairs_ahead_alone(self):
        low, one = ("low",), ("one",)
        inner, pair = (low, one), (("box", low), ("box", one))
        table = table_of_lows()
        self.check(table, pair, "within", [pair], False)
        self.check(table, pair, "within", [pair, inner], False)
        self.check(table, pair, "within", [pair, inner, pair], False)
        self.check(table, pair, "within", [inner, pair], True)
        inner, pair = inner[::-1], pair[::-1]
        self.check(table, pair, "apart", [pair], False)
        self.check(table, pair, "apart", [pair, inner, pair], False)
        self.check(table, pair, "apart", [inner, pair], True)
        for word in ("within", "apart"):
            self.check(Table(SINK, ODD), ROUND, word, [ROUND], False)
            self.check(Table(SINK, ODD), ROUND, word, [ROUND, ROUND], False)

    def test_more_rows_than_needed(self):
        low, one, two = ("low",), ("one",), ("two",)
        inner, pair = (low, one), (("box", low), ("box", one))
        table = table_of_lows()
        for more in [inner, ("X", "X"), ("Z", "Z"), (two, two), (low, low)]:
            for rows in [[more, inner, pair], [inner, more, pair], [more, inner, more, more, pair]]:
                self.check(table, pair, "within", rows, True)
        self.check(table, pair, "within", [inner, inner, pair, inner, pair, pair], True)
        self.check(table, pair, "within", [(two, two), ("A", "A"), inner, pair], True)
        self.check(table, pair, "within", [(two, one), inner, pair], False)
        self.check(table, pair, "within", [inner, (one, two), pair], False)
        self.check(table, pair, "within", [(("box", two), ("box", two)), inner, pair], False)
        apart = [(two, one), (one, low), ("A", "B"), (one, low), (("box", one), ("box", low))]
        self.check(table, apart[-1], "apart", apart, True)
        self.check(table, apart[-1], "apart", [(one, one)] + apart, False)
        self.check(table, apart[-1], "apart", [(("box", two), ("box", one))] + apart, False)

    def test_rows_of_types_about_which_no_answer_is_told(self):
        table = Table(ONE, BOX, WIDE)
        wide = ("wide", ("one",))
        pair = (("one",), ("one",))
        with self.assertRaises(Endless):
            answer(table, wide, wide)
        self.check(table, pair, "within", [pair, (wide, wide), pair], True)
        self.check(table, pair, "within", [(wide, wide), pair], False)
        apart = (("one",), ("box", ("one",)))
        self.check(table, apart, "apart", [(wide, ("one",)), (("one",), wide), apart], True)
        self.check(table, apart, "apart", [(wide, wide), apart], False)
        self.check(table, apart, "not", sorted([apart, (("one",), wide)], key=plain.by_texts), True)
        many = (chain(500), chain(500))
        with self.assertRaises(TooMany):
            answer(table, *many)
        self.check(table, pair, "within", [(chain(at), chain(at)) for at in range(501)] + [pair], True)
        self.check(table, pair, "within", [many, pair], False)

    def test_pairs_that_are_ascending(self):
        left = bare("left", ("sink", ("sink", ("right",))))
        right = bare("right", ("sink", ("sink", ("left",))))
        table = Table(SINK, left, right)
        # Each of them has one way, which asks another one.
        pairs = tuple(((one,), ("sink", (other,))) for one in ["left", "right"] for other in ["left", "right"])
        for pair in pairs:
            self.assertEqual(reasons(table, *pair), (("not", pairs), ("open", pairs)))
            for word in ["not", "open"]:
                self.check(table, pair, word, pairs, True)
                for at in range(4):
                    self.check(table, pair, word, pairs[:at] + pairs[at + 1:], False)
                    self.check(table, pair, word, pairs[:at + 1] + pairs[at:], False)
                for order in list(itertools.permutations(pairs))[1:]:
                    self.check(table, pair, word, order, False)

    def test_ascending_by_the_texts_of_the_first_then_of_the_second_types(self):
        table = Table(ONE, TWO, BOX, LOW, bare("ones"))
        kinds = ["X", "Y", ("box", "X"), ("box", ("box", "X")), ("box", ("one",)), ("box", ("ones",)), ("low",),
                 ("one",), ("ones",), ("two",)]
        apart = [(one, other) for one in kinds for other in kinds if answer(table, one, other) == "apart"]
        self.assertGreater(len(apart), 80)
        self.assertEqual(apart, sorted(apart, key=plain.by_texts))
        for pair in apart:
            self.check(table, pair, "not", apart, True)
        for at in range(1, len(apart)):
            swapped = apart[:at - 1] + [apart[at], apart[at - 1]] + apart[at + 1:]
            self.check(table, apart[at], "not", swapped, False)
        within = [(kind, kind) for kind in kinds]
        self.check(table, within[0], "open", within, True)
        self.check(table, within[0], "open", within[::-1], False)

    def test_the_pair_is_among_the_others(self):
        table = table_of_lows()
        pair, others = (("one",), ("two",)), [("X", "Y"), (("low",), ("two",))]
        self.check(table, pair, "not", others, False)
        self.check(table, pair, "not", others + [pair], True)
        self.check(table, pair, "not", [pair], True)
        self.check(table, pair, "not", [], False)
        pair = (("low",), ("one",))
        self.check(table, pair, "open", [], False)
        self.check(table, pair, "open", [("X", "X")], False)
        self.check(table, pair, "open", [("X", "X"), pair], True)

    def test_each_pair_counts(self):
        table = table_of_lows()
        pair = (("two",), ("one",))
        self.check(table, pair, "not", [(("low",), ("one",)), pair], False)
        self.check(table, pair, "not", [(("box", ("two",)), ("box", ("one",))), pair], True)
        self.check(table, pair, "not", [(("box", ("two",)), ("box", ("low",))), pair], False)
        pair = (("low",), ("one",))
        self.check(table, pair, "open", [(("box", ("low",)), ("box", ("one",))), pair], True)
        self.check(table, pair, "open", [(("box", ("low",)), ("box", ("low",))), pair], False)
        self.check(table, pair, "open", [pair, (("one",), ("two",))], False)

    def test_a_way_that_fails(self):
        both = bare("both", ("cell", ("one",)), ("cell", ("low",)))
        table = Table(ONE, CELL, LOW, both)
        for inner, expected in [("one", True), ("low", True), ("both", False)]:
            pair = (("both",), ("cell", (inner,)))
            for word in WORDS:
                self.check(table, pair, word, [pair], expected is (word in ("within", "open")))

    def test_as_the_words_say(self):
        told = {True: 0, False: 0}
        for at, (table, one, other, _) in enumerate(asked()):
            dice = Dice(at)
            for word, rows in reasons(table, one, other):
                for _ in range(6):
                    changed = self.changed(dice, table, rows, (one, other))
                    for name in (word, dice.one_of(WORDS)):
                        expected = plain.shows(table, one, other, name, changed)
                        told[expected] += 1
                        self.check(table, (one, other), name, changed, expected)
        self.assertGreater(min(told.values()), 1500)

    def changed(self, dice, table, rows, pair):
        """Rows of which one is left out, told twice, moved, turned about or added, or all are put in order."""
        rows = list(rows)
        at = dice.below(len(rows))
        more = dice.one_of([rows[at], pair, rows[at][::-1], *questions(table, dice.below(999), 2, ["X", rows[0][0]])])
        rows = dice.one_of([
            rows[:at] + rows[at + 1:], rows[:at] + [more] + rows[at:], rows[:at] + [more] + rows[at + 1:],
            rows[at:] + rows[:at], rows, rows[::-1], rows[:at + 1] + rows,
        ])
        return sorted(set(rows), key=plain.by_texts) if dice.below(2) else rows


class AnyValueTest(unittest.TestCase):
    PAIR = (("low",), ("one",))

    def test_what_is_nothing_of_this_form(self):
        table = table_of_lows()
        pair = self.PAIR
        self.assertIs(shows(table, *pair, ("within", (pair,))), True)
        self.assertIs(shows(table, *pair, ("open", (pair,))), True)
        things = [
            ["within", (pair,)], ("within", [pair]), ("within", (list(pair),)), ("within",), ("within", pair),
            ("within", (pair,), ()), (("within", (pair,)),), ("Within", (pair,)), ("within ", (pair,)), ("", (pair,)),
            ("round", (pair,)), ("not", (pair,)), ("open", [pair]), ("open", pair), ("open", (pair, None)),
            (True, (pair,)), (1, (pair,)), (None, (pair,)), (["within"], (pair,)), ({}, (pair,)), (table, (pair,)),
            (("within",), (pair,)), "within", ("within", "X"), ("within", ""), ("within", None), ("within", {}),
            {"within": (pair,)}, ((pair,), "within"), "open", ("open", {pair: True}), ("within", table),
            ("within", (("within", (pair,)), pair)), answer(table, *pair), reasons(table, *pair),
        ]
        for thing in anything() + letters_and_values() + things:
            self.assertIs(shows(table, *pair, thing), False)

    def test_what_is_no_pair_of_types(self):
        table = table_of_lows()
        pair = self.PAIR
        rows = [
            ("one", "one"), (("one",),), (("one",), ("one",), ("one",)), [("one",), ("one",)], (["one"], ["one"]),
            (("cell", "X"), ("cell", "X")), (("box",), ("box",)), (("one", "X"), ("one", "X")), "XX", "X", ("X",),
            (True, True), (1, 1), (None, None), ({}, {}), (("box", ["one"]), ("box", ["one"])), (table, table),
            (("box", "x"), ("box", "x")), ("x", "x"), ("XY", "XY"), ("", ""), ((), ()), (("one",), "one"),
            ("X", None), (None, "X"), (("box", "X"), ("box", ("nowhere",))), (("nowhere",), ("nowhere",)),
        ]
        for row in rows + anything():
            for word in WORDS:
                self.assertIs(shows(table, *pair, (word, (row, pair))), False)
                self.assertIs(shows(table, *pair, (word, (pair, row))), False)
                self.assertIs(shows(table, *pair, (word, (row,))), False)
                self.assertIs(shows(table, *pair, (word, row)), False)

    def test_returned_values_with_parts_changed(self):
        for table, one, other, _ in itertools.islice(asked(), 0, None, 9):
            for word, rows in reasons(table, one, other):
                self.assertIs(shows(table, one, other, (word, rows)), True)
                self.assertIs(shows(table, one, other, [word, rows]), False)
                self.assertIs(shows(table, one, other, (word, list(rows))), False)
                self.assertIs(shows(table, one, other, (word, rows, rows)), False)
                self.assertIs(shows(table, one, other, (word, rows + (None,))), False)
                self.assertIs(shows(table, one, other, (word, rows[:-1] + (list(rows[-1]),))), False)
                self.assertIs(shows(table, one, other, (word, rows[:-1] + (rows[-1] + rows[-1],))), False)
                self.assertIs(shows(table, one, other, reasons(table, one, other)), False)

    def test_many_rows(self):
        table = table_of_lows()
        pair = self.PAIR
        self.assertIs(shows(table, *pair, ("within", (pair,) * 2600)), True)
        self.assertIs(shows(table, *pair, ("within", (pair,) * 2600 + (("X", "Y"), pair))), False)
        self.assertIs(shows(table, *pair, ("open", (pair,) * 2600)), False)
        deep = (chain(2000), chain(2000))
        self.assertIs(shows(table, *pair, ("within", (pair, deep, pair))), False)
        self.assertIs(shows(table, *pair, ("open", (deep, pair))), False)
        letters = (chain(2000, "X"), chain(2000, "X"))
        self.assertIs(shows(table, *pair, ("within", (pair, letters, pair))), False)


if __name__ == "__main__":
    unittest.main()
