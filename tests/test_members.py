"""The members that types have, and members that do not fit those of parents [60], [61]."""

import itertools
import unittest

import plain
from endlesskinds.errors import Clash, Endless, NoType, TooMany
from endlesskinds.members import members, misfits
from endlesskinds.tables import Table
from endlesskinds.within import answer
from families import graded
from helpers import BOX, CELL, DUO, ONE, SINK, TWO, bare, chain, pair_table

LOW = bare("low", ("one",))
WIDE = ("wide", (("X", "out"),), (("box", ("box", ("wide", ("wide", "X")))),), ())
WAYS = ("reads", "takes", "holds")


def told(function, *values):
    """What a function returns, or the class of its exception with the fields."""
    try:
        return function(*values)
    except Clash as error:
        return ("clash", error.name, error.member)
    except (Endless, TooMany) as error:
        return type(error)


def one_member(name, way, kind, *parents):
    """A class without parameters, with a member at."""
    return (name, (), parents, (("at", way, kind),))


MANY = ("p", ("low",), ("sink", ("low",)))
FEW = ("p", ("one",), ("sink", ("one",)))


def many_pairs(own=MANY, wanted=("sink", FEW), way="reads", member="at", parents=(("one",),)):
    """A table in which MANY and a sink of FEW reach some 800 pairs, and low reads the former, one the latter."""
    letters = (("X", "same"), ("Y", "same"))
    twice = [("sink", ("sink", kind)) for kind in [
        ("p", "Y", "X"), ("q", "X", "Y"), ("p", ("one",), "X"), ("p", ("sink", ("sink", ("one",))), "Y")]]
    return Table(
        ("sink", (("X", "in"),), (), ()), ("q", letters, tuple(twice[2:]), ()),
        ("p", letters, tuple(twice[:2]), (("at", "takes", ("one",)),)),
        ("one", (), (), (("at", "reads", wanted),)), ("low", (), parents, ((member, way, own),)),
    )


class MembersTest(unittest.TestCase):
    def check(self, table, kind, *expected):
        found = members(table, kind)
        self.assertIsInstance(found, tuple)
        self.assertEqual(found, expected)

    def test_none(self):
        self.check(pair_table(), ("one",))
        self.check(Table(LOW, ONE), ("low",))

    def test_declared_members_with_the_arguments_filled_in(self):
        table = pair_table() + SINK + CELL
        self.check(table, ("box", ("one",)), ("first", "reads", ("one",)))
        self.check(table, ("sink", ("box", "Z")), ("put", "takes", ("box", "Z")))
        self.check(table, ("cell", "X"), ("at", "holds", "X"))

    def test_letters(self):
        self.check(pair_table(), ("box", "A"), ("first", "reads", "A"))
        self.check(pair_table(), ("pair", "Y", "X"), ("first", "reads", "Y"), ("second", "holds", ("box", "X")))
        self.check(pair_table(), ("pair", ("box", "Y"), "Y"),
                   ("first", "reads", ("box", "Y")), ("second", "holds", ("box", "Y")))

    def test_those_of_parents(self):
        low = ("low", (("Z", "out"),), (("box", ("box", "Z")),), (("at", "holds", ("one",)),))
        self.check(Table(ONE, BOX, low), ("low", ("one",)),
                   ("at", "holds", ("one",)), ("first", "reads", ("box", ("one",))))
        lower = bare("lower", ("low", ("low", ("one",))))
        self.check(Table(lower, ONE, BOX, low), ("lower",),
                   ("at", "holds", ("one",)), ("first", "reads", ("box", ("low", ("one",)))))

    def test_those_of_both_parents(self):
        both = ("both", (("X", "out"), ("Y", "in")), (("sink", "Y"), ("box", ("one",))), ())
        self.check(Table(ONE, BOX, SINK, both), ("both", "A", "B"),
                   ("first", "reads", ("one",)), ("put", "takes", "B"))

    def test_a_declared_one_ahead_of_those_of_parents(self):
        low = ("low", (("X", "out"),), (("box", ("box", "X")),), (("first", "takes", ("one",)),))
        self.check(Table(ONE, BOX, low), ("low", "X"), ("first", "takes", ("one",)))
        self.check(Table(ONE, BOX, low, bare("lower", ("low", ("one",)))), ("lower",), ("first", "takes", ("one",)))

    def test_ascending_by_names(self):
        high = ("high", (), (), (("b", "reads", ("one",)), ("ab", "reads", ("one",))))
        low = ("low", (), (("high",),), (("bc", "reads", ("one",)), ("aa", "reads", ("one",))))
        for order in itertools.permutations([ONE, high, low]):
            self.check(Table(*order), ("low",), *[(name, "reads", ("one",)) for name in ["aa", "ab", "b", "bc"]])

    def test_of_a_letter(self):
        for letter in "XYZA":
            with self.assertRaises(NoType):
                members(pair_table(), letter)

    def test_of_any_size(self):
        deep = chain(6000, "X")
        self.assertIs(members(pair_table(), ("pair", deep, ("one",)))[0][2], deep)
        full = ("duo", ("duo", "X", "X"), ("duo", "X", "X"))
        top = ("c", (("X", "out"),), (), (("at", "reads", full),))
        classes = [(name, (("X", "out"),), ((head, full),), ()) for name, head in ["ab", "bc"]]
        kind = "X"
        for _ in range(6):
            kind = ("a", ("duo", kind, kind))
        (_, way, found), = members(Table(ONE, DUO, top, *classes), kind)
        self.assertEqual((way, found[0]), ("reads", "duo"))

    def test_as_the_words_say(self):
        many = 0
        for table in graded(150) + graded(100, "abc", 2, 3):
            for one in table.classes:
                values = [("one",), "Y"][:len(one[1])]
                kind = (one[0], *values)
                clash = plain.clash(table, {one[0]} | plain.elders(table, one[0]))
                if clash is None:
                    rows = plain.members(table, kind)
                    self.assertEqual(members(table, kind),
                                     tuple((name, *row) for name in sorted(rows) for row in rows[name]))
                else:
                    many += 1
                    self.assertEqual(told(members, table, kind), ("clash", *clash))
        self.assertGreater(many, 20)


class ClashTest(unittest.TestCase):
    def check(self, classes, kind, *expected):
        self.assertEqual(told(members, Table(*classes), kind), ("clash", *expected))
        self.assertEqual(told(misfits, Table(*classes)), ("clash", *expected))

    def fine(self, classes, kind):
        self.assertIsInstance(members(Table(*classes), kind), tuple)
        self.assertIsInstance(misfits(Table(*classes)), tuple)

    def test_unlike_ways(self):
        for left, right in itertools.product(WAYS, WAYS):
            classes = [ONE, one_member("left", left, ("one",)), one_member("right", right, ("one",)),
                       bare("both", ("left",), ("right",))]
            if left == right:
                self.fine(classes, ("both",))
            else:
                self.check(classes, ("both",), "both", "at")

    def test_unlike_types(self):
        for way in WAYS:
            left, right = one_member("left", way, ("one",)), one_member("right", way, ("low",))
            self.check([ONE, LOW, left, right, bare("both", ("left",), ("right",))], ("both",), "both", "at")

    def test_with_its_own_letters(self):
        for kinds, alike in [(("X", "X"), True), (("X", "Y"), False), (("X", ("one",)), False)]:
            both = ("both", (("X", "same"), ("Y", "same")), (("box", kinds[0]), ("other", kinds[1])), ())
            other = ("other",) + BOX[1:]
            classes = [ONE, BOX, other, both]
            for kind in [("both", ("one",), ("one",)), ("both", "X", "X"), ("both", "X", "Y")]:
                if alike:
                    self.fine(classes, kind)
                else:
                    self.check(classes, kind, "both", "first")

    def test_two_parents_of_one_class(self):
        self.check([ONE, TWO, BOX, bare("both", ("box", ("one",)), ("box", ("two",)))], ("both",), "both", "first")
        self.fine([ONE, TWO, BOX, bare("both", ("box", ("one",)), ("box", ("one",)))], ("both",))

    def test_a_name_that_it_declares_does_not_clash(self):
        left, right = one_member("left", "reads", ("low",)), one_member("right", "takes", ("one",))
        both = one_member("both", "holds", ("one",), ("left",), ("right",))
        table = Table(ONE, LOW, left, right, both)
        self.assertEqual(members(table, ("both",)), (("at", "holds", ("one",)),))
        self.assertEqual(misfits(table), (("both", "at"),))

    def test_members_of_parents_of_parents(self):
        left, right = one_member("left", "reads", ("one",)), one_member("right", "takes", ("one",))
        self.check([ONE, left, right, bare("lower", ("left",)), bare("both", ("right",), ("lower",))],
                   ("both",), "both", "at")
        self.fine([ONE, left, bare("lower", ("left",)), bare("lowest", ("left",)),
                   bare("both", ("lowest",), ("lower",))], ("both",))

    def test_the_first_member(self):
        rows = [("ab", "reads", ("one",)), ("a", "reads", ("one",))]
        other = [(name, "takes", kind) for name, _, kind in rows]
        for left, right in itertools.product([rows, rows[::-1]], [other, other[::-1]]):
            classes = [ONE, ("left", (), (), tuple(left)), ("right", (), (), tuple(right)),
                       bare("both", ("left",), ("right",))]
            self.check(classes, ("both",), "both", "a")
        right = ("right", (), (), (("ab", "takes", ("one",)), ("a", "reads", ("one",))))
        self.check([ONE, ("left", (), (), tuple(rows)), right, bare("both", ("left",), ("right",))],
                   ("both",), "both", "ab")

    def test_the_first_class_of_the_table(self):
        left, right = one_member("left", "reads", ("one",)), one_member("right", "takes", ("one",))
        rows = [bare("p", ("left",), ("right",)), bare("q", ("right",), ("left",))]
        for one, other in [rows, rows[::-1]]:
            table = Table(one, left, ONE, other, right)
            self.assertEqual(told(misfits, table), ("clash", one[0], "at"))
            for kind in "pq":
                self.assertEqual(told(members, table, (kind,)), ("clash", kind, "at"))
            for kind in ["one", "left", "right"]:
                self.assertNotIn("clash", members(table, (kind,)))

    def test_none_of_its_elders_clashes(self):
        left, right = one_member("left", "reads", ("one",)), one_member("right", "takes", ("one",))
        both = bare("both", ("left",), ("right",))
        for lower in [bare("lower", ("both",)), bare("lower", ("both",), ("left",)),
                      bare("lower", ("right",), ("both",)), one_member("lower", "holds", ("one",), ("both",))]:
            for order in itertools.permutations([left, right, both, lower, ONE]):
                table = Table(*order)
                for kind in [("both",), ("lower",)]:
                    self.assertEqual(told(members, table, kind), ("clash", "both", "at"))
                self.assertEqual(told(misfits, table), ("clash", "both", "at"))
                self.assertEqual(members(table, ("left",)), (("at", "reads", ("one",)),))

    def test_only_the_class_of_the_type_and_its_elders(self):
        left, right = one_member("left", "reads", ("both",)), ("right", (("X", "same"),), (), (("at", "takes", "X"),))
        both = bare("both", ("left",), ("right", ("one",)))
        table = Table(both, left, right, ONE)
        self.assertEqual(members(table, ("left",)), (("at", "reads", ("both",)),))
        self.assertEqual(members(table, ("right", ("both",))), (("at", "takes", ("both",)),))
        self.assertEqual(told(members, table, ("both",)), ("clash", "both", "at"))

    def test_the_first_of_several_elders(self):
        left, right = one_member("left", "reads", ("left",)), one_member("right", "takes", ("left",))
        rows = [bare("p", ("left",), ("right",)), bare("q", ("left",), ("right",))]
        low = bare("low", ("p",), ("q",))
        for order in itertools.permutations([left, right, *rows, low]):
            expected = [one[0] for one in order if one in rows][0]
            self.assertEqual(told(members, Table(*order), ("low",)), ("clash", expected, "at"))

    def test_as_the_words_say(self):
        many = 0
        for table in graded(400) + graded(100, "abc"):
            expected = plain.clash(table, table.names)
            if expected is not None:
                many += 1
                self.assertEqual(told(misfits, table), ("clash", *expected))
        self.assertGreater(many, 15)


class MisfitsTest(unittest.TestCase):
    def check(self, classes, *expected):
        found = misfits(Table(*classes))
        self.assertIsInstance(found, tuple)
        self.assertEqual(found, expected)

    def test_none(self):
        self.check([ONE])
        self.check([ONE, BOX, SINK, CELL])
        self.check(pair_table().classes)

    def test_ways_and_types(self):
        # The way and the type of the parent's member, then those that fit it.
        right = {
            ("reads", "mid"): {("reads", "mid"), ("reads", "low"), ("holds", "mid"), ("holds", "low")},
            ("takes", "mid"): {("takes", "mid"), ("takes", "one"), ("holds", "mid"), ("holds", "one")},
            ("holds", "mid"): {("holds", "mid")},
        }
        mid, low = bare("mid", ("one",)), bare("low", ("mid",))
        for (way, kind), fitting in right.items():
            high = one_member("high", way, (kind,))
            for own in itertools.product(WAYS, ["one", "mid", "low"]):
                deep = one_member("deep", own[0], (own[1],), ("high",))
                expected = [] if own in fitting else [("deep", "at")]
                self.check([ONE, mid, low, high, deep], *expected)

    def test_other_names_are_not_asked(self):
        high, low = one_member("high", "reads", ("one",)), ("low", (), (("high",),), (("ats", "takes", ("one",)),))
        self.check([ONE, high, low])

    def test_members_that_parents_have_from_their_own(self):
        high, mid = one_member("high", "reads", ("one",)), bare("mid", ("high",))
        self.check([ONE, high, mid, one_member("low", "takes", ("one",), ("mid",))], ("low", "at"))
        self.check([ONE, high, mid, one_member("low", "holds", ("one",), ("mid",))])

    def test_only_members_of_its_own_parents(self):
        # mid does not fit high; low fits mid, and is not asked about high.
        high, mid = one_member("high", "reads", ("one",)), one_member("mid", "takes", ("one",), ("high",))
        self.check([ONE, high, mid, one_member("low", "takes", ("one",), ("mid",))], ("mid", "at"))
        self.check([ONE, high, mid, bare("low", ("mid",))], ("mid", "at"))

    def test_each_parent_counts(self):
        left, right = one_member("left", "reads", ("one",)), one_member("right", "takes", ("one",))
        for way, expected in [("reads", [("both", "at")]), ("takes", [("both", "at")]), ("holds", [])]:
            for parents in [(("left",), ("right",)), (("right",), ("left",))]:
                self.check([ONE, left, right, one_member("both", way, ("one",), *parents)], *expected)

    def test_with_its_own_letters(self):
        for declared, expected in [(("box", "X"), []), ("X", [("low", "first")]), (("low", "X"), [("low", "first")]),
                                   (("box", ("one",)), [("low", "first")])]:
            low = ("low", (("X", "out"),), (("box", ("box", "X")),), (("first", "reads", declared),))
            self.check([ONE, BOX, low], *expected)

    def test_round_is_not_within(self):
        odd = bare("odd", ("sink", ("sink", ("odd",))))
        sink = ("sink", (("X", "in"),), (), ())
        high = one_member("high", "reads", ("sink", ("odd",)))
        self.check([sink, odd, high, one_member("low", "reads", ("odd",), ("high",))], ("low", "at"))
        self.check([sink, odd, high, one_member("low", "reads", ("sink", ("odd",)), ("high",))])

    def test_ascending(self):
        high = ("high", (), (), (("b", "reads", ("one",)), ("ab", "reads", ("one",))))
        rows = [(name, (), (("high",),), (("b", "takes", ("one",)), ("ab", "takes", ("one",)))) for name in ["b", "ab"]]
        for order in itertools.permutations([ONE, high, *rows]):
            self.check(order, ("ab", "ab"), ("ab", "b"), ("b", "ab"), ("b", "b"))

    def test_endless_also_if_nothing_is_asked(self):
        for classes in [[ONE, BOX, WIDE], [WIDE, BOX, ONE, bare("low", ("one",))]]:
            with self.assertRaises(Endless) as caught:
                misfits(Table(*classes))
            self.assertEqual(caught.exception.cycle, (("wide", "X"),))
            self.assertEqual(members(Table(*classes), ("wide", "X")),
                             (("first", "reads", ("box", ("wide", ("wide", "X")))),))

    def test_endless_by_parents_alone(self):
        deep = ("deep", (("X", "out"),), (), (("more", "reads", ("deep", ("box", "X"))),))
        self.check([ONE, BOX, deep])

    def test_the_first_of_the_shortest_cycles(self):
        wider = ("far", (("X", "out"),), (("box", ("box", ("far", ("box", "X")))),), ())
        for order in itertools.permutations([ONE, BOX, WIDE, wider]):
            with self.assertRaises(Endless) as caught:
                misfits(Table(*order))
            self.assertEqual(caught.exception.cycle, (("far", "X"),))

    def test_clash_ahead_of_endless(self):
        both = bare("both", ("box", ("one",)), ("box", ("both",)))
        self.assertEqual(told(misfits, Table(ONE, BOX, WIDE, both)), ("clash", "both", "first"))
        self.assertIs(told(misfits, Table(ONE, BOX, WIDE, bare("both", ("box", ("one",))))), Endless)

    def test_too_many(self):
        self.assertIs(told(misfits, many_pairs()), TooMany)
        self.assertIs(told(answer, many_pairs(), MANY, ("sink", FEW)), TooMany)
        self.assertEqual(told(misfits, many_pairs(own=("low",))), (("low", "at"),))
        self.assertEqual(told(misfits, many_pairs(wanted=("one",))), (("low", "at"),))

    def test_too_many_only_of_what_is_asked(self):
        self.assertIs(told(misfits, many_pairs(way="holds")), TooMany)
        self.assertEqual(told(misfits, many_pairs(way="takes")), (("low", "at"),))
        self.assertEqual(told(misfits, many_pairs(member="other")), ())
        self.assertEqual(told(members, many_pairs(), ("low",)), (("at", "reads", MANY),))

    def test_too_many_of_any_question(self):
        # The member does not fit that of the other parent, whatever is answered.
        for parents in [(("one",), FEW), (FEW, ("one",))]:
            self.assertIs(told(misfits, many_pairs(parents=parents)), TooMany)
            self.assertEqual(told(misfits, many_pairs(own=("low",), parents=parents)), (("low", "at"),))
        self.assertEqual(told(misfits, many_pairs(parents=(FEW,))), (("low", "at"),))

    def test_clash_and_endless_ahead_of_too_many(self):
        clashing = many_pairs(member="other", parents=(("one",), FEW))
        self.assertEqual(told(misfits, clashing), ("clash", "low", "at"))
        classes = [one for one in many_pairs().classes if one[0] != "q"]
        wide = ("q", (("X", "same"), ("Y", "same")), (("sink", ("q", ("sink", "X"), "Y")),), ())
        self.assertIs(told(misfits, Table(*classes, wide)), Endless)

    def test_as_the_words_say(self):
        told_fit, told_misfit = 0, 0
        for table in graded(300) + graded(200, "abc") + graded(100, "ab", 2, 3):
            cycle = plain.parent_cycle(table, table.names)
            clash = plain.clash(table, table.names)
            if clash is not None:
                self.assertEqual(told(misfits, table), ("clash", *clash))
            elif cycle is not None:
                self.assertIs(told(misfits, table), Endless)
            else:
                expected = plain.misfits(table)
                self.assertEqual(told(misfits, table), expected)
                told_misfit += len(expected)
                told_fit += len(expected) == 0
        self.assertGreater(min(told_fit, told_misfit), 100)


if __name__ == "__main__":
    unittest.main()
