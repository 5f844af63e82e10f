"""Books that refuse some changes: Ending, Capped and EndingCapped [71]."""

import copy
import inspect
import unittest

from endlesskinds.books import Book, Capped, Ending, EndingCapped
from endlesskinds.errors import Crowded, Endless, NoClass, NoDeed, NoMost, NoRoot, NoRoots, NoTable, NoType, Unfit
from endlesskinds.needs import needs
from endlesskinds.tables import Table
from helpers import (
    BOX, DEEP, DUO, ONE, SINK, TWICE, TWO, anything, bare, chain, no_tables, pair_table, reading, told,
)
from refusing import Refusing, deep_table, state

FAR = ("far", (("X", "out"),), (), (("more", "reads", ("far", ("box", "X"))),))
DEEPER, FARTHER = ("deep", ("one",)), ("far", ("one",))
LEAVES = (("pair", ("one",), ("one",)), ("one",))


def both_tables():
    return Table(ONE, BOX, DEEP, FAR)


class FamilyTest(unittest.TestCase):
    def test_classes(self):
        for one, above in [(Book, []), (Ending, [Book]), (Capped, [Book]), (EndingCapped, [Ending, Capped, Book])]:
            for other in [Book, Ending, Capped, EndingCapped]:
                self.assertIs(issubclass(one, other), other is one or other in above)
                self.assertIs(isinstance(one(pair_table()), other), other is one or other in above)

    def test_all_of_a_book(self):
        for make in [Ending, Capped, EndingCapped]:
            book = make(pair_table(), chain(2))
            self.assertEqual(state(book)[:4], (pair_table(), (chain(2),), 0, ()))
            self.assertIsNone(book.do(("add", SINK), ("root", ("sink", ("one",)))))
            self.assertEqual((len(book), chain(1) in book, chain(3) in book, book.changes), (4, True, False, 2))
            self.assertEqual(book(("one",)), ((chain(2), chain(1), chain(0)), (("sink", ("one",)), ("one",))))
            self.assertIsNone(book.undo())
            self.assertIsNone(book.root(chain(3)))
            self.assertIsNone(book.unroot(chain(2)))
            self.assertIsNone(book.change(("sink", (("X", "out"),), (), ())))
            self.assertIsNone(book.drop("sink"))
            self.assertIsNone(book.add(TWO))
            self.assertEqual((book.roots, book.changes), ((chain(3),), 6))
            self.assertEqual(book.table.names, ("one", "box", "pair", "two"))

    def test_repr(self):
        for many in range(5):
            roots = [chain(at) for at in range(many)]
            for make in [Book, Ending, Capped, EndingCapped]:
                self.assertEqual(repr(make(pair_table(), *roots)), f"{make.__name__}({many} roots)")

    def test_most(self):
        for make in [Capped, EndingCapped]:
            self.assertEqual(make(pair_table()).most, 20)
            for most in [1, 2, 99, 100]:
                book = make(pair_table(), ("one",), most=most)
                self.assertEqual((book.most, type(book.most)), (most, int))
                with self.assertRaises(AttributeError):
                    book.most = 3
            self.assertEqual(make(table=pair_table(), most=7).most, 7)
            self.assertEqual(make(most=7, table=pair_table()).most, 7)
            self.assertIn("most", vars(make))
            parameters = inspect.signature(make).parameters
            self.assertEqual([(name, one.default) for name, one in parameters.items()][2:], [("most", 20)])
        for make in [Book, Ending]:
            self.assertFalse(hasattr(make(pair_table()), "most"))
            with self.assertRaises(TypeError):
                make(pair_table(), most=20)

    def test_equal_if_most_is(self):
        for make in [Capped, EndingCapped]:
            self.assertEqual(make(pair_table(), most=20), make(pair_table()))
            self.assertNotEqual(make(pair_table(), most=21), make(pair_table()))
            self.assertIs(make(pair_table(), ("one",), most=5) == make(pair_table(), ("one",), most=5), True)
            self.assertIs(make(pair_table(), ("one",), most=5) == make(pair_table(), ("one",), most=6), False)
            self.assertIs(make(pair_table(), ("one",), most=5) == make(pair_table(), most=5), False)
            self.assertIs(copy.deepcopy(make(pair_table(), most=5)) == make(pair_table(), most=5), True)
        self.assertNotEqual(Capped(pair_table()), EndingCapped(pair_table()))
        self.assertNotEqual(Book(pair_table()), Ending(pair_table()))


class WrongTest(unittest.TestCase):
    def test_no_table(self):
        for make in [Ending, Capped, EndingCapped]:
            for thing in no_tables():
                self.assertIs(told(make, thing), NoTable)
                self.assertIs(told(make, thing, None), NoTable)
                self.assertIs(told(make, table=thing), NoTable)
                if make is not Ending:
                    self.assertIs(told(make, thing, None, most=0), NoTable)

    def test_no_most(self):
        things = [thing for thing in anything() if not (type(thing) is int and 1 <= thing <= 100)]
        for make in [Capped, EndingCapped]:
            for most in things + [True, False, None, 0, -1, 101, 10 ** 12, "20", (20,), [20]]:
                self.assertIs(told(make, pair_table(), most=most), NoMost)
                self.assertIs(told(make, pair_table(), ("one",), most=most), NoMost)

    def test_no_most_ahead_of_no_roots(self):
        for make in [Capped, EndingCapped]:
            for most in [0, 101, True, None, "20"]:
                for roots in [(None,), (("one",), ("one",)), ("X",), tuple(chain(at) for at in range(5)), (chain(70),)]:
                    self.assertIs(told(make, pair_table(), *roots, most=most), NoMost)

    def test_no_roots_ahead_of_the_rest(self):
        for make in [Ending, Capped, EndingCapped]:
            for roots in [(DEEPER, None), (DEEPER, DEEPER), (chain(70), "X"),
                          (*[chain(at) for at in range(60, 64)], DEEPER)]:
                self.assertIs(told(make, deep_table(), *roots), NoRoots)


class EndingTest(Refusing):
    MADE = [Ending, EndingCapped]

    def test_when_it_is_made(self):
        for make in self.MADE:
            for roots, cycle in [([DEEPER], "deep"), ([("one",), DEEPER], "deep"), ([FARTHER, DEEPER], "far"),
                                 ([DEEPER, FARTHER], "deep"), ([("box", FARTHER)], "far")]:
                with self.assertRaises(Endless) as caught:
                    make(both_tables(), *roots)
                self.assertEqual(caught.exception.cycle, ((cycle, "X"),))
            self.assertEqual(make(both_tables(), ("one",)).endless, ())

    def test_a_root(self):
        for make in self.MADE:
            book = make(both_tables(), ("one",))
            self.refused(book, Endless, lambda: book.root(DEEPER), cycle=(("deep", "X"),))
            self.refused(book, Endless, lambda: book.root(("box", FARTHER)), cycle=(("far", "X"),))
            self.refused(book, NoRoots, lambda: book.root(("one",)))
            self.refused(book, NoType, lambda: book.root(("deep", "X")))
            self.done(book, lambda: book.root(chain(3)), both_tables().classes, [("one",), chain(3)], 1)

    def test_a_class_that_is_changed(self):
        for make in self.MADE:
            book = make(Table(ONE, BOX, bare("low")), ("one",), chain(2), ("low",))
            wide = reading("box", "X", ("box", ("box", "X")))
            self.refused(book, Endless, lambda: book.change(wide), cycle=(("box", "X"),))
            book.unroot(chain(2))
            self.done(book, lambda: book.change(wide), [ONE, wide, bare("low")], [("one",), ("low",)], 2)
            low = reading("low", "", ("box", ("one",)))
            self.refused(book, Endless, lambda: book.change(low), cycle=(("box", "X"),))
            self.refused(book, Endless, lambda: book.change(bare("one", ("box", ("low",)))), cycle=(("box", "X"),))
            self.refused(book, Unfit, lambda: book.change(bare("one", ("nowhere",))), name="one")

    def test_the_cycle_of_the_first_endless_root(self):
        for make in self.MADE:
            for names in ["pq", "qp"]:
                book = make(Table(ONE, BOX, bare("low"), *[reading(name, "X") for name in "pq"]),
                            *[(name, ("low",)) for name in names])
                # Both roots become endless at once, over what they reach.
                low = reading("low", "", ("p", ("one",)), ("q", ("one",)))
                book.change(low)
                self.refused(book, Endless, lambda: book.change(reading("q", "X", ("q", ("q", "X")))),
                             cycle=(("q", "X"),))
            rows = [reading(name, "X", ("box", "X")) for name in "pq"]
            book = make(Table(ONE, BOX, *rows), ("q", ("one",)), ("p", ("one",)))
            wide = reading("box", "X", ("q", ("q", "X")), ("p", ("p", "X")))
            self.refused(book, Endless, lambda: book.change(wide), cycle=(("box", "X"), ("p", "X")))

    def test_what_no_root_needs_may_be_endless(self):
        for make in self.MADE:
            book = make(Table(ONE, BOX), chain(2))
            self.done(book, lambda: book.add(DEEP), [ONE, BOX, DEEP], [chain(2)], 1)

    def test_each_deed(self):
        new = ("deep", (("X", "out"),), (), ())
        for make in self.MADE:
            book = make(deep_table(), ("one",))
            self.refused(book, Endless, lambda: book.do(("add", TWO), ("root", DEEPER), ("undo",)))
            self.refused(book, Endless, lambda: book.do(("root", DEEPER), ("unroot", DEEPER)))
            self.refused(book, Endless, lambda: book.do(("root", DEEPER), ("change", new)))
            self.refused(book, NoDeed, lambda: book.do(("root", DEEPER), ("roots",)))
            self.refused(book, NoRoot, lambda: book.do(("unroot", DEEPER), ("root", DEEPER)))
            self.done(book, lambda: book.do(("change", new), ("root", DEEPER)), [ONE, BOX, new], [("one",), DEEPER], 2)
            self.refused(book, Endless, lambda: book.change(DEEP), cycle=(("deep", "X"),))
            book.undo()
            book.undo()
            self.refused(book, Endless, lambda: book.root(DEEPER), cycle=(("deep", "X"),))

    def test_too_many_is_not_endless(self):
        book = Ending(deep_table(), chain(70))
        self.done(book, lambda: book.root(chain(80)), deep_table().classes, [chain(70), chain(80)], 1)
        with self.assertRaises(Endless):
            Ending(deep_table(), chain(70), DEEPER)


class CappedTest(Refusing):
    MADE = [Capped, EndingCapped]

    def test_when_it_is_made(self):
        for make in self.MADE:
            for most in [1, 2, 3, 19, 20, 59]:
                self.assertEqual(len(make(pair_table(), chain(most - 1), most=most)), most)
                self.assertIs(told(make, pair_table(), chain(most), most=most), Crowded)
            self.assertEqual(len(make(pair_table(), chain(19))), 20)
            self.assertIs(told(make, pair_table(), chain(20)), Crowded)
            self.assertEqual(len(make(pair_table(), most=1)), 0)

    def test_what_the_roots_need_together(self):
        table = pair_table()
        for make in self.MADE:
            self.assertEqual(len(make(table, chain(2), ("pair", ("one",), ("one",)), most=4)), 4)
            self.assertIs(told(make, table, chain(2), ("pair", ("one",), ("one",)), most=3), Crowded)
            self.assertEqual(len(make(table, chain(3), chain(2), chain(1), chain(0), most=4)), 4)
            self.assertIs(told(make, table, chain(3), chain(2), chain(1), chain(0), most=3), Crowded)

    def test_just_100_and_101_types(self):
        boxes = ("box", (("X", "same"),), (("cell", "X"), ("sink", "X")), ())
        table = Table(ONE, boxes, ("cell", (("X", "same"),), (), ()), ("sink", (("X", "same"),), (), ()))
        self.assertEqual(len(needs(table, chain(33))), 100)
        for make in self.MADE:
            book = make(table, chain(33), most=100)
            self.assertEqual(len(book), 100)
            self.refused(book, Crowded, lambda: book.root(("cell", chain(33))))
            self.refused(book, Crowded, lambda: book.root(("cell", ("cell", ("one",)))))
            self.done(book, lambda: book.root(("cell", ("one",))), table.classes, [chain(33), ("cell", ("one",))], 1)
            self.assertIs(told(make, table, chain(33), most=99), Crowded)
            self.assertIs(told(make, table, chain(34), most=100), Crowded)

    def test_too_many_types_or_too_large_ones(self):
        table = Table(ONE, BOX, DUO, TWICE)
        large = ("duo", chain(29), chain(29))
        for make in self.MADE:
            self.assertIs(told(make, table, chain(60), most=100), Crowded)
            self.assertIs(told(make, table, large, most=100), Crowded)
            self.assertIs(told(make, table, ("one",), large, most=100), Crowded)
            self.assertIs(told(make, table, chain(6000), most=100), Crowded)
            book = make(table, ("one",), most=100)
            for kind in [chain(60), large, chain(6000)]:
                self.refused(book, Crowded, lambda: book.root(kind))
            self.done(book, lambda: book.root(chain(59)), table.classes, [("one",), chain(59)], 1)

    def test_endless(self):
        self.assertIs(told(Capped, deep_table(), DEEPER), Crowded)
        self.assertIs(told(Capped, deep_table(), ("one",), DEEPER, most=100), Crowded)
        book = Capped(deep_table(), ("one",))
        self.refused(book, Crowded, lambda: book.root(DEEPER))
        self.assertEqual(book.endless, ())
        book = Capped(Table(ONE, BOX), chain(1))
        self.refused(book, Crowded, lambda: book.change(reading("box", "X", ("box", ("box", "X")))))

    def test_changes(self):
        for make in self.MADE:
            book = make(Table(ONE, BOX, SINK), chain(2), most=3)
            self.refused(book, Crowded, lambda: book.root(chain(3)))
            self.refused(book, Crowded, lambda: book.root(("sink", ("one",))))
            self.done(book, lambda: book.root(chain(1)), [ONE, BOX, SINK], [chain(2), chain(1)], 1)
            more = ("box", (("X", "out"),), (), (("at", "holds", ("sink", "X")),))
            self.refused(book, Crowded, lambda: book.change(more))
            self.done(book, lambda: book.unroot(chain(2)), [ONE, BOX, SINK], [chain(1)], 2)
            self.done(book, lambda: book.change(more), [ONE, more, SINK], [chain(1)], 3)
            self.refused(book, Crowded, lambda: book.root(chain(2)))
            self.done(book, lambda: book.add(TWO), [ONE, more, SINK, TWO], [chain(1)], 4)
            self.refused(book, Crowded, lambda: book.change(bare("one", ("two",))))
            self.refused(book, NoClass, lambda: book.change(None))
            self.refused(book, NoRoots, lambda: book.root(chain(1)))

    def test_each_deed(self):
        for make in self.MADE:
            book = make(pair_table(), ("one",), most=3)
            self.refused(book, Crowded, lambda: book.do(("root", chain(3)), ("unroot", chain(3))))
            self.refused(book, Crowded, lambda: book.do(("root", chain(1)), ("root", chain(3)), ("undo",)))
            self.refused(book, Crowded, lambda: book.do(("root", chain(2)), ("root", LEAVES[0]), ("unroot", chain(2))))
            self.done(book, lambda: book.do(("root", chain(2)), ("unroot", chain(2)), ("root", LEAVES[0])),
                      pair_table().classes, [("one",), LEAVES[0]], 3)
            book.undo()
            book.undo()
            self.assertEqual(book.roots, (("one",), chain(2)))
            self.assertEqual(book.most, 3)


class EndingCappedTest(Refusing):
    def test_endless_ahead_of_crowded(self):
        for roots, error in [([DEEPER], Endless), ([chain(70), DEEPER], Endless), ([DEEPER, chain(70)], Endless),
                             ([chain(20), DEEPER], Endless), ([chain(20)], Crowded), ([chain(70)], Crowded)]:
            self.assertIs(told(EndingCapped, deep_table(), *roots), error)
            self.assertIs(told(Capped, deep_table(), *roots), Crowded)
        book = EndingCapped(deep_table(), chain(10))
        self.refused(book, Endless, lambda: book.root(chain(70, DEEPER)), cycle=(("deep", "X"),))
        self.refused(book, Crowded, lambda: book.root(chain(70)))
        self.refused(book, Endless, lambda: book.change(reading("one", "", ("deep", ("one",)))), cycle=(("deep", "X"),))

    def test_the_cycle_of_the_first_endless_root(self):
        for roots, name in [((FARTHER, DEEPER), "far"), ((chain(70), DEEPER, FARTHER), "deep")]:
            with self.assertRaises(Endless) as caught:
                EndingCapped(both_tables(), *roots, most=1)
            self.assertEqual(caught.exception.cycle, ((name, "X"),))

    def test_most_is_its_own(self):
        book = EndingCapped(pair_table(), chain(4), most=5)
        self.refused(book, Crowded, lambda: book.root(chain(5)))
        book = EndingCapped(pair_table(), chain(30), most=31)
        self.assertEqual((len(book), book.most), (31, 31))


if __name__ == "__main__":
    unittest.main()
