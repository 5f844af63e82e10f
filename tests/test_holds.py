"""What holds over the whole program [90]."""

import itertools
import unittest

from endlesskinds.errors import Clash, Endless, TooMany
from endlesskinds.members import members, misfits
from endlesskinds.signs import faults
from endlesskinds.types import fill
from endlesskinds.within import ancestors, answer
from families import Dice, graded, questions, some_type, turning, winding


def told(table, one, other):
    """The answer, None where none is told."""
    try:
        return answer(table, one, other)
    except (Endless, TooMany):
        return None


def tables():
    return graded(80) + graded(80, "abc") + graded(40, "ab", 2, 3) + winding(40) + turning(20)


def related(table, start):
    """Types of a table, some of which are within others."""
    leaves = [one for one in ["X", ("one",), ("p",)] if one == "X" or one in table]
    found = {kind: True for pair in questions(table, start, 3, leaves) for kind in pair}
    for kind in list(found):
        for one in ancestors(table, kind):
            found[one] = True
    return list(found)[:14]


def told_within(table, kinds):
    """The pairs of some types of which the first is within the second one."""
    return {pair for pair in itertools.product(kinds, kinds) if told(table, *pair) == "within"}


class WithinTest(unittest.TestCase):
    def test_each_type_is_within_itself(self):
        for at, table in enumerate(tables()):
            for kind in related(table, at):
                self.assertIn(told(table, kind, kind), ("within", None))

    def test_each_type_is_within_its_ancestors(self):
        many = 0
        for at, table in enumerate(tables()):
            for kind in related(table, at):
                for other in ancestors(table, kind):
                    word = told(table, kind, other)
                    self.assertIn(word, ("within", None))
                    many += word == "within"
        self.assertGreater(many, 1000)

    def test_within_what_is_within_a_third_type(self):
        many = 0
        for at, table in enumerate(tables()):
            kinds = related(table, at)
            found = told_within(table, kinds)
            for one, other in found:
                for third in kinds:
                    if (other, third) in found:
                        self.assertIn(told(table, one, third), ("within", None))
                        many += len({one, other, third}) == 3
        self.assertGreater(many, 100)

    def test_two_that_are_within_one_another_are_equal(self):
        for at, table in enumerate(tables()):
            found = told_within(table, related(table, at))
            for one, other in found:
                self.assertEqual(one == other, (other, one) in found)

    def test_filling_keeps_what_is_within(self):
        many = 0
        for at, table in enumerate(tables()):
            dice = Dice(at)
            arities = {one[0]: len(one[1]) for one in table.classes}
            leaf = [kind for kind in [("one",), ("p",)] if kind in table][0]
            for one, other in told_within(table, related(table, at)):
                values = {letter: some_type(dice, arities, ["X", leaf], 2) for letter in "XY"}
                filled = fill(one, values), fill(other, values)
                self.assertIn(told(table, *filled), ("within", None))
                many += filled != (one, other) and one != other
        self.assertGreater(many, 100)


class MembersTest(unittest.TestCase):
    def fits(self, table, one, other):
        (_, way, kind), (_, other_way, wanted) = one, other
        return ((other_way == "reads" and way != "takes" and told(table, kind, wanted) == "within")
                or (other_way == "takes" and way != "reads" and told(table, wanted, kind) == "within")
                or (other_way == way == "holds" and kind == wanted))

    def test_members_are_fitted_where_nothing_is_wrong(self):
        many = 0
        for at, table in enumerate(graded(500) + graded(400, "abc") + graded(200, "ab", 2, 3)):
            try:
                if faults(table) or misfits(table):
                    continue
            except (Clash, Endless, TooMany):
                continue
            kinds = [kind for kind in related(table, at) if isinstance(kind, tuple)]
            for one, other in told_within(table, kinds):
                own = {row[0]: row for row in members(table, one)}
                for row in members(table, other):
                    self.assertIn(row[0], own)
                    self.assertTrue(self.fits(table, own[row[0]], row))
                    many += one != other
        self.assertGreater(many, 200)


if __name__ == "__main__":
    unittest.main()
