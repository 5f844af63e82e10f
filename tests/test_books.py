"""Books: what can be read of them, and their changes, one at a time [70]; [2], [3] for these."""

import copy
import inspect
import unittest

from endlesskinds import books
from endlesskinds.books import Book, Capped, Ending, EndingCapped
from endlesskinds.errors import (
    Endless, Looped, NoClass, NoDeed, NoName, NoRoot, NoRoots, NothingDone, NoTable, NoType, TooMany, Turned, Unfit,
)
from endlesskinds.needs import needs, why
from endlesskinds.tables import Table
from helpers import (
    BOX, CELL, ONE, PAIR, SINK, TWO, anything, bare, chain, letters_and_values, no_tables, pair_table, told,
)
from refusing import Refusing, deep_table, state

ODDS = [None, True, 0, 1, "", "X", "one", [], {}, ["one"], (True,), ("one", True), ("box", "X"), ("two",), ("box",)]


class MadeTest(unittest.TestCase):
    def test_table_and_roots(self):
        kinds = (("pair", ("one",), ("one",)), ("one",), ("box", ("one",)), chain(30))
        for many in range(5):
            table = pair_table()
            book = Book(table, *kinds[:many])
            self.assertEqual(book.table, table)
            self.assertIsInstance(book.table, Table)
            self.assertEqual(book.roots, kinds[:many])
            self.assertIs(type(book.roots), tuple)
            self.assertEqual(book.changes, 0)
            self.assertIs(type(book.changes), int)
            self.assertEqual(book.endless, ())
            self.assertEqual(repr(book), f"Book({many} roots)")

    def test_the_table_by_name(self):
        self.assertEqual(Book(table=pair_table()), Book(pair_table()))
        self.assertEqual(Book(table=pair_table()).roots, ())

    def test_no_table(self):
        for thing in no_tables() + [Book(pair_table())]:
            self.assertIs(told(Book, thing), NoTable)
            self.assertIs(told(Book, table=thing), NoTable)
            for root in [("one",), None, "X"]:
                self.assertIs(told(Book, thing, root), NoTable)
                self.assertIs(told(Book, thing, *[root] * 5), NoTable)

    def test_no_roots(self):
        for thing in anything() + letters_and_values()[:4] + ODDS:
            for roots in [(thing,), (("one",), thing), (thing, ("one",)), (thing, thing), (("one",),) * 2]:
                self.assertIs(told(Book, pair_table(), *roots), NoRoots)

    def test_one_occurs_twice_or_more_than_four(self):
        table = pair_table()
        self.assertIs(told(Book, table, ("one",), ("box", ("one",)), ("one",)), NoRoots)
        self.assertIs(told(Book, table, *[chain(at) for at in range(5)]), NoRoots)
        self.assertIs(told(Book, table, *[chain(at) for at in range(6)]), NoRoots)
        self.assertEqual(Book(table, *[chain(at) for at in range(4)]).roots, tuple(chain(at) for at in range(4)))
        self.assertIs(told(Book, table, chain(6000), chain(6000)), NoRoots)
        self.assertEqual(len(Book(table, chain(6000), chain(6001)).roots), 2)

    def test_properties_are_not_assigned(self):
        book = Book(pair_table(), ("one",))
        for name in ["table", "roots", "changes", "endless"]:
            with self.assertRaises(AttributeError):
                setattr(book, name, ())
        self.assertEqual(book, Book(pair_table(), ("one",)))

    def test_interface_stands_in_the_class(self):
        for name in ["table", "roots", "changes", "endless", "add", "drop", "change", "root", "unroot", "undo", "do",
                     "__init__", "__call__", "__len__", "__contains__", "__eq__", "__repr__"]:
            self.assertIn(name, vars(Book))
        for one in [Book, Ending, Capped, EndingCapped]:
            self.assertEqual(one.__module__, "endlesskinds.books")
            self.assertIn("__init__", vars(one))
            self.assertIs(getattr(books, one.__name__), one)
        for name, listed in [("change", "one"), ("root", "kind"), ("unroot", "kind"), ("__call__", "kind"),
                             ("add", "classes"), ("drop", "names"), ("do", "deeds"), ("undo", "")]:
            self.assertEqual(list(inspect.signature(getattr(Book, name)).parameters), ["self", *listed.split()])


class EqualTest(unittest.TestCase):
    def test_equal_if_tables_and_roots_are(self):
        roots = [("one",), ("box", ("one",))]
        book = Book(pair_table(), *roots)
        self.assertIs(book == Book(pair_table(), *roots), True)
        self.assertIs(book != Book(pair_table(), *roots), False)
        self.assertIs(book == copy.deepcopy(book), True)
        for other in [Book(pair_table()), Book(pair_table(), *roots[::-1]), Book(pair_table(), roots[0]),
                      Book(Table(ONE, BOX), *roots), Book(pair_table() + SINK, *roots),
                      Book(Table(*pair_table().classes[::-1]), *roots)]:
            self.assertIs(book == other, False)
            self.assertIs(other == book, False)
            self.assertIs(book != other, True)

    def test_changes_do_not_count(self):
        book = Book(pair_table())
        book.root(("one",))
        self.assertEqual(book, Book(pair_table(), ("one",)))
        book.undo()
        self.assertEqual(book, Book(pair_table()))
        book.change(ONE)
        self.assertEqual(book, Book(pair_table()))

    def test_the_class_counts(self):
        made = [make(pair_table(), ("one",)) for make in [Book, Ending, Capped, EndingCapped]]
        for at, one in enumerate(made):
            for number, other in enumerate(made):
                self.assertIs(one == other, at == number)
                self.assertIs(one != other, at != number)

    def test_equal_to_nothing_else(self):
        book = Book(pair_table(), ("one",))
        for thing in anything() + letters_and_values() + [pair_table(), (pair_table(), ("one",)), repr(book), 4]:
            if isinstance(thing, Book):
                continue
            self.assertIs(book == thing, False)
            self.assertIs(thing == book, False)
            self.assertIs(book != thing, True)
            self.assertIs(thing != book, True)

    def test_roots_of_any_size(self):
        self.assertIs(Book(pair_table(), chain(6000)) == Book(pair_table(), chain(6000)), True)
        self.assertIs(Book(pair_table(), chain(6000)) == Book(pair_table(), chain(6001)), False)


class NeededTest(unittest.TestCase):
    def check(self, book, kinds):
        self.assertEqual(len(book), len(kinds))
        for kind in kinds:
            self.assertIs(kind in book, True)
            self.assertIs(kind not in book, False)
        for kind in [("one",), ("box", ("one",)), chain(3), ("pair", ("one",), ("one",)), "X", ("box", "X")]:
            self.assertIs(kind in book, kind in kinds)

    def test_what_roots_need_together(self):
        table = pair_table()
        roots = [("box", ("one",)), ("pair", ("one",), ("one",)), chain(2), ("pair", chain(2), ("one",))]
        for many in range(5):
            found = {kind for root in roots[:many] for kind in needs(table, root)}
            self.check(Book(table, *roots[:many]), found)
            self.check(Book(table, *roots[:many][::-1]), found)

    def test_without_roots(self):
        self.check(Book(pair_table()), [])
        self.assertEqual(Book(pair_table())(("one",)), ())

    def test_any_value(self):
        book = Book(pair_table(), ("pair", ("one",), ("one",)))
        for thing in anything() + letters_and_values()[:4] + ODDS + [book, list(needs(pair_table(), ("one",)))]:
            self.assertIs(thing in book, False)
            self.assertIs((thing,) in book, thing == "one")
        for thing in anything() + ODDS:
            self.assertIs(("box", thing) in book, False)
        self.assertIs(chain(6000) in book, False)
        self.assertIs(("one",) in book, True)

    def test_why(self):
        table = pair_table()
        roots = (chain(2), ("one",), ("pair", ("one",), ("one",)))
        book = Book(table, *roots)
        for kind in [("one",), chain(1), chain(2), chain(3), ("pair", ("one",), ("one",)), chain(6000)]:
            found = book(kind)
            self.assertIs(type(found), tuple)
            self.assertEqual(found, tuple(why(table, root, kind) for root in roots))
            self.assertEqual(book(kind=kind), found)
            self.assertEqual(book(kind), found)
        self.assertEqual(book(chain(2)), ((chain(2),), None, None))
        self.assertEqual(book(("one",))[1:], ((("one",),), (roots[2], ("one",))))

    def test_why_of_no_type(self):
        for book in [Book(pair_table()), Book(pair_table(), ("one",)), Book(pair_table(), chain(70))]:
            for thing in anything() + ODDS + ["X", ("box", "X"), ("sink", ("one",))]:
                if thing != ("one",):
                    self.assertIs(told(book, thing), NoType)
        self.assertIs(told(Book(deep_table(), ("deep", ("one",))), "X"), NoType)

    def test_endless_and_too_many(self):
        deep, many = ("deep", ("one",)), chain(70)
        for roots, error in [([deep], Endless), ([many], TooMany), ([many, deep], TooMany), ([deep, many], Endless),
                             ([("one",), deep], Endless), ([("one",), many], TooMany), ([("deep", many)], Endless),
                             ([chain(3), ("one",), many, deep], TooMany)]:
            book = Book(deep_table(), *roots)
            for use in [lambda: len(book), lambda: ("one",) in book, lambda: roots[0] in book, lambda: None in book,
                        lambda: book in book, lambda: book(("one",)), lambda: book(deep), lambda: book(roots[0])]:
                self.assertIs(told(use), error)
            self.assertEqual(book.endless, tuple(root for root in roots if "deep" in str(root)))
            self.assertEqual(repr(book), f"Book({len(roots)} roots)")

    def test_the_cycle_of_the_first_endless_root(self):
        other = ("far", (("X", "out"),), (), (("more", "reads", ("far", ("box", "X"))),))
        roots = [("far", ("one",)), ("deep", ("one",))]
        for order, cycle in [(roots, (("far", "X"),)), (roots[::-1], (("deep", "X"),))]:
            book = Book(deep_table() + other, ("one",), *order)
            for use in [lambda: len(book), lambda: ("one",) in book, lambda: book(("one",))]:
                with self.assertRaises(Endless) as caught:
                    use()
                self.assertEqual(caught.exception.cycle, cycle)
            self.assertEqual(book.endless, tuple(order))

    def test_each_root_by_itself(self):
        # Each of them needs at most 100 types, together they need more.
        boxes = ("box", (("X", "same"),), (("cell", "X"), ("sink", "X")), ())
        table = Table(ONE, boxes, ("cell", (("X", "same"),), (), ()), ("sink", (("X", "same"),), (), ()))
        roots = [chain(33)] + [("cell", ("sink", chain(at))) for at in (30, 31)]
        self.assertEqual([len(needs(table, root)) for root in roots], [100, 93, 96])
        book = Book(table, *roots, ("cell", ("cell", chain(33))))
        self.assertIs(told(lambda: len(book)), TooMany)
        book.unroot(("cell", ("cell", chain(33))))
        self.assertEqual(len(book), 102)
        self.assertIs(chain(33) in book, True)

    def test_endless_is_in_the_order_of_the_roots(self):
        kinds = [("deep", ("one",)), ("one",), ("box", ("deep", ("one",))), chain(70)]
        self.assertEqual(Book(deep_table(), *kinds).endless, (kinds[0], kinds[2]))
        self.assertEqual(Book(deep_table(), *kinds[::-1]).endless, (kinds[2], kinds[0]))
        self.assertIs(type(Book(deep_table()).endless), tuple)


class AddTest(Refusing):
    def test_at_the_end(self):
        book = Book(Table(ONE, BOX), ("one",))
        self.done(book, lambda: book.add(PAIR), [ONE, BOX, PAIR], [("one",)], 1)
        self.done(book, lambda: book.add(SINK, CELL), [ONE, BOX, PAIR, SINK, CELL], [("one",)], 2)

    def test_classes_that_name_one_another(self):
        book = Book(Table(ONE))
        left, right = bare("left", ("right",)), ("right", (), (), (("at", "holds", ("left",)),))
        self.done(book, lambda: book.add(left, right), [ONE, left, right], [], 1)

    def test_none(self):
        book = Book(pair_table(), ("one",))
        self.refused(book, NoClass, lambda: book.add())

    def test_no_class(self):
        book = Book(pair_table(), ("one",))
        for thing in anything() + letters_and_values() + [(TWO,), list(TWO), TWO[:3], Table(TWO), "two"]:
            self.refused(book, NoClass, lambda: book.add(thing))
        for thing in ODDS + [(TWO,), list(TWO), Table(TWO)]:
            self.refused(book, NoClass, lambda: book.add(TWO, thing))
            self.refused(book, NoClass, lambda: book.add(thing, bare("odd", ("nowhere",))))

    def test_a_name_twice_or_too_many(self):
        book = Book(pair_table(), ("one",))
        for classes in [(ONE,), (TWO, BOX), (TWO, TWO), (SINK, CELL, TWO), (bare("odd", ("nowhere",)), PAIR),
                        (SINK, CELL, bare("odd", ("odd",)))]:
            self.refused(book, NoClass, lambda: book.add(*classes))

    def test_what_does_not_fit(self):
        book = Book(pair_table(), ("one",))
        self.refused(book, Unfit, lambda: book.add(TWO, bare("odd", ("nowhere",))), name="odd")
        self.refused(book, Unfit, lambda: book.add(bare("odd", ("odd",)), bare("even", ("nowhere",))), name="even")
        self.refused(book, Looped, lambda: book.add(bare("odd", ("even",)), bare("even", ("odd",))), name="odd")
        turned = ("turned", (("Y", "in"), ("X", "in")), (("box", "X"),), ())
        self.refused(book, Turned, lambda: book.add(turned), name="turned", letter="X")
        self.refused(book, Looped, lambda: book.add(turned, bare("odd", ("odd",))), name="odd")
        self.done(book, lambda: book.add(TWO), [*pair_table().classes, TWO], [("one",)], 1)


class DropTest(Refusing):
    def test_classes_less(self):
        book = Book(pair_table() + SINK + TWO, ("one",))
        self.done(book, lambda: book.drop("sink"), [ONE, BOX, PAIR, TWO], [("one",)], 1)
        self.done(book, lambda: book.drop("two", "pair"), [ONE, BOX], [("one",)], 2)

    def test_several_that_name_one_another(self):
        left, right = bare("left", ("right",)), ("right", (), (), (("at", "holds", ("left",)),))
        for names in [("left", "right"), ("right", "left")]:
            book = Book(Table(left, ONE, right))
            self.refused(book, Unfit, lambda: book.drop("left"), name="right")
            self.refused(book, Unfit, lambda: book.drop("right"), name="left")
            self.done(book, lambda: book.drop(*names), [ONE], [], 1)

    def test_none_and_twice(self):
        book = Book(pair_table(), ("one",))
        for names in [(), ("pair", "pair"), ("pair", "box", "pair"), ("one", "one")]:
            self.refused(book, NoName, lambda: book.drop(*names))

    def test_no_name(self):
        book = Book(pair_table(), ("one",))
        for thing in anything() + letters_and_values() + ["two", "Pair", ("pair",), ["pair"], PAIR, 0, -1]:
            if thing != "one":
                for names in [(thing,), ("pair", thing), (thing, "pair"), ("one", thing), ("one", "box", thing)]:
                    self.refused(book, NoName, lambda: book.drop(*names))

    def test_no_class_without_parameters_is_left(self):
        for names in [("one",), ("one", "pair"), ("one", "box"), ("one", "box", "pair")]:
            book = Book(pair_table())
            self.refused(book, NoClass, lambda: book.drop(*names))
            book = Book(pair_table(), ("one",))
            self.refused(book, NoClass, lambda: book.drop(*names))

    def test_unfit(self):
        book = Book(pair_table(), ("box", ("one",)))
        self.refused(book, Unfit, lambda: book.drop("box"), name="pair")
        book = Book(pair_table() + TWO, ("one",))
        self.refused(book, Unfit, lambda: book.drop("one"), name="pair")

    def test_a_root_is_lost(self):
        book = Book(pair_table() + SINK, ("one",), ("sink", ("box", ("one",))))
        for names in [("sink",), ("sink", "pair"), ("pair", "box")]:
            self.refused(book, NoRoots, lambda: book.drop(*names))
        self.done(book, lambda: book.drop("pair"), [ONE, BOX, SINK], [("one",), ("sink", ("box", ("one",)))], 1)
        book.unroot(("sink", ("box", ("one",))))
        self.done(book, lambda: book.drop("sink", "box"), [ONE], [("one",)], 3)

    def test_unfit_ahead_of_no_roots(self):
        book = Book(pair_table(), chain(3))
        self.refused(book, Unfit, lambda: book.drop("box"), name="pair")
        self.refused(book, NoRoots, lambda: book.drop("box", "pair"))


class ChangeTest(Refusing):
    def test_in_the_place_of_the_one_with_its_name(self):
        book = Book(Table(ONE, BOX, TWO), ("one",))
        new = ("box", (("Y", "in"),), (), ())
        self.done(book, lambda: book.change(new), [ONE, new, TWO], [("one",)], 1)
        self.done(book, lambda: book.change(bare("one", ("two",))), [bare("one", ("two",)), new, TWO], [("one",)], 2)
        self.done(book, lambda: book.change(one=BOX), [bare("one", ("two",)), BOX, TWO], [("one",)], 3)

    def test_the_class_that_is_there_already(self):
        book = Book(pair_table(), ("one",))
        self.done(book, lambda: book.change(BOX), pair_table().classes, [("one",)], 1)
        self.done(book, lambda: book.change(BOX), pair_table().classes, [("one",)], 2)
        book.undo()
        self.assertEqual(book.changes, 1)

    def test_no_class(self):
        book = Book(pair_table(), ("one",))
        for thing in anything() + letters_and_values() + [(BOX,), list(BOX), BOX[:3], Table(ONE), "box"]:
            self.refused(book, NoClass, lambda: book.change(thing))

    def test_no_class_without_parameters_is_left(self):
        for roots in [(), (("one",),)]:
            book = Book(Table(ONE, BOX), *roots)
            self.refused(book, NoClass, lambda: book.change(("one", (("X", "out"),), (), ())))
            self.refused(book, NoClass, lambda: book.change(("one", (("X", "out"),), (("nowhere",),), ())))
        book = Book(Table(ONE, TWO))
        new = ("one", (("X", "out"),), (), ())
        self.done(book, lambda: book.change(new), [new, TWO], [], 1)

    def test_no_name(self):
        book = Book(pair_table(), ("one",))
        for one in [TWO, SINK, bare("odd", ("nowhere",)), bare("odd", ("odd",)), ("odd", (("X", "out"),), (), ())]:
            self.refused(book, NoName, lambda: book.change(one))

    def test_what_does_not_fit(self):
        book = Book(pair_table(), ("one",), ("box", ("one",)))
        self.refused(book, Unfit, lambda: book.change(bare("box")), name="pair")
        self.refused(book, Unfit, lambda: book.change(bare("one", ("nowhere",))), name="one")
        self.refused(book, Unfit, lambda: book.change(("pair", PAIR[1], (("box", "Z"),), ())), name="pair")
        self.refused(book, Looped, lambda: book.change(bare("one", ("one",))), name="one")
        self.refused(book, Looped, lambda: book.change(bare("one", ("pair", ("one",), ("one",)))), name="one")
        turned = ("pair", (("X", "out"), ("Y", "in")), (("box", "X"), ("box", "Y")), ())
        self.refused(book, Turned, lambda: book.change(turned), name="pair", letter="Y")
        self.refused(book, Turned, lambda: book.change(("box", (("X", "in"),), (), ())), name="pair", letter="X")

    def test_a_root_is_lost(self):
        book = Book(Table(ONE, BOX, TWO), ("one",), ("box", ("box", ("one",))))
        for new in [bare("box"), ("box", (("X", "out"), ("Y", "out")), (), ()), ("one", (("X", "out"),), (), ())]:
            self.refused(book, NoRoots, lambda: book.change(new))
        new = ("box", (("X", "in"),), (), (("at", "takes", "X"),))
        self.done(book, lambda: book.change(new), [ONE, new, TWO], [("one",), ("box", ("box", ("one",)))], 1)

    def test_unfit_ahead_of_no_roots(self):
        book = Book(pair_table(), chain(2))
        self.refused(book, Unfit, lambda: book.change(bare("box")), name="pair")


class RootTest(Refusing):
    def test_at_the_end(self):
        book = Book(pair_table())
        kinds = [chain(2), ("one",), ("pair", ("one",), ("one",)), chain(70)]
        for at, kind in enumerate(kinds):
            self.done(book, lambda: book.root(kind), pair_table().classes, kinds[:at + 1], at + 1)
        book = Book(pair_table(), ("one",))
        self.done(book, lambda: book.root(kind=chain(1)), pair_table().classes, [("one",), chain(1)], 1)

    def test_no_type(self):
        for roots in [(), (("one",),), tuple(chain(at) for at in range(4))]:
            book = Book(pair_table(), *roots)
            for thing in anything() + ODDS + ["Z", ("pair", "X", ("one",)), ("sink", ("one",))]:
                self.refused(book, NoType, lambda: book.root(thing))

    def test_it_is_there_or_four_already(self):
        book = Book(pair_table(), chain(1), chain(6000))
        self.refused(book, NoRoots, lambda: book.root(chain(1)))
        self.refused(book, NoRoots, lambda: book.root(chain(6000)))
        book = Book(pair_table(), *[chain(at) for at in range(4)])
        for kind in [chain(0), chain(3), chain(4), ("pair", ("one",), ("one",))]:
            self.refused(book, NoRoots, lambda: book.root(kind))

    def test_endless_and_too_many(self):
        book = Book(deep_table())
        self.done(book, lambda: book.root(("deep", ("one",))), deep_table().classes, [("deep", ("one",))], 1)
        self.assertEqual(book.endless, (("deep", ("one",)),))
        self.done(book, lambda: book.root(chain(70)), deep_table().classes, [("deep", ("one",)), chain(70)], 2)


class UnrootTest(Refusing):
    def test_one_less(self):
        kinds = [chain(2), ("one",), ("pair", ("one",), ("one",)), chain(6000)]
        book = Book(pair_table(), *kinds)
        self.done(book, lambda: book.unroot(("one",)), pair_table().classes, [kinds[0], *kinds[2:]], 1)
        self.done(book, lambda: book.unroot(kind=chain(6000)), pair_table().classes, [kinds[0], kinds[2]], 2)
        self.done(book, lambda: book.unroot(chain(2)), pair_table().classes, [kinds[2]], 3)
        self.done(book, lambda: book.root(("one",)), pair_table().classes, [kinds[2], ("one",)], 4)
        self.done(book, lambda: book.unroot(kinds[2]), pair_table().classes, [("one",)], 5)
        self.done(book, lambda: book.unroot(("one",)), pair_table().classes, [], 6)

    def test_no_type(self):
        book = Book(pair_table(), ("one",))
        for thing in anything() + ODDS + ["Z", ("pair", "X", ("one",)), ("sink", ("one",))]:
            self.refused(book, NoType, lambda: book.unroot(thing))

    def test_it_is_not_there(self):
        book = Book(pair_table(), ("one",), chain(2))
        for kind in [chain(1), chain(3), ("pair", ("one",), ("one",)), chain(6000)]:
            self.refused(book, NoRoot, lambda: book.unroot(kind))
        book.unroot(("one",))
        self.refused(book, NoRoot, lambda: book.unroot(("one",)))
        book = Book(pair_table())
        self.refused(book, NoRoot, lambda: book.unroot(("one",)))


class UnchangedTest(Refusing):
    def test_the_table_that_was_handed_in(self):
        table = pair_table()
        book = Book(table, ("one",))
        other = Book(table, ("one",))
        book.add(SINK)
        book.drop("pair")
        book.root(("box", ("one",)))
        self.assertEqual(table, pair_table())
        self.assertEqual(table.classes, pair_table().classes)
        self.assertEqual(state(other), state(Book(table, ("one",))))

    def test_what_was_read_before(self):
        book = Book(pair_table(), ("one",))
        table, roots, endless = book.table, book.roots, book.endless
        book.do(("add", SINK), ("root", chain(1)), ("unroot", ("one",)))
        self.assertEqual((table, roots, endless), (pair_table(), (("one",),), ()))

    def test_reading_changes_nothing(self):
        for roots in [(("one",), chain(3)), (chain(70),)]:
            book = Book(deep_table(), *roots, ("deep", ("one",)))
            before = state(book)
            for use in [lambda: len(book), lambda: ("one",) in book, lambda: ["one"] in book, lambda: book(("one",)),
                        lambda: book("X"), lambda: repr(book), lambda: book == book, lambda: book == ["one"],
                        lambda: book.endless]:
                first = told(use)
                self.assertEqual(told(use), first)
                self.assertEqual(state(book), before)

    def test_arguments_are_not_modified(self):
        for thing in [["one"], {"X": ["one"]}, [[[]]], ("root", ["one"]), ["root", ("one",)], ("add", [ONE])]:
            before = copy.deepcopy(thing)
            book = Book(pair_table(), ("one",))
            for use in [lambda: Book(thing), lambda: Book(pair_table(), thing), lambda: book.add(thing),
                        lambda: book.drop(thing), lambda: book.change(thing), lambda: book.root(thing),
                        lambda: book.unroot(thing), lambda: book.do(thing), lambda: book(thing), lambda: thing in book]:
                told(use)
                self.assertEqual(thing, before)
            self.assertEqual(book.changes, 0)

    def test_returned_values_may_be_passed_back(self):
        book = Book(pair_table(), chain(3))
        for way in book(("one",)):
            for kind in way[1:]:
                book.root(kind)
        self.assertEqual(book.roots, (chain(3), chain(2), chain(1), chain(0)))
        self.refused(book, NoRoots, lambda: book.root(book.roots[1]))
        self.refused(book, NoType, lambda: book.root(book.roots))
        self.refused(book, NoClass, lambda: book.add(*book.table.classes))
        self.refused(book, NoDeed, lambda: book.do(book.roots))
        self.assertEqual(Book(book.table, *book.roots), book)
        self.assertIs(told(Book, book), NoTable)
        book.do(*[("undo",)] * book.changes)
        self.refused(book, NothingDone, book.undo)


if __name__ == "__main__":
    unittest.main()
