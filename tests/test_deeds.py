"""Changes of books that are taken back, and several at once [70]."""

import collections
import unittest

from endlesskinds.books import Book, Capped, Ending, EndingCapped
from endlesskinds.endings import verdict
from endlesskinds.errors import (
    KindError, Looped, NoClass, NoDeed, NoName, NoRoot, NoRoots, NothingDone, NoType, Turned, Unfit,
)
from endlesskinds.needs import needs, why
from endlesskinds.tables import Table
from families import Dice
from helpers import (
    BOX, CELL, DEEP, DUO, ONE, PAIR, SINK, TWO, anything, bare, chain, letters_and_values, pair_table, told,
)
from ledger import Ledger
from refusing import Refusing, state


class UndoTest(Refusing):
    def test_nothing_done(self):
        book = Book(pair_table(), ("one",))
        self.refused(book, NothingDone, book.undo)
        book.root(chain(1))
        book.undo()
        self.refused(book, NothingDone, book.undo)

    def test_each_change(self):
        classes = [ONE, BOX, TWO]
        for use in [lambda book: book.add(SINK), lambda book: book.drop("two"), lambda book: book.change(bare("two")),
                    lambda book: book.root(chain(2)), lambda book: book.unroot(("one",)),
                    lambda book: book.change(("box", (("Z", "in"),), (), ()))]:
            book = Book(Table(*classes), ("one",), chain(1))
            before = state(book)
            use(book)
            self.assertEqual(book.changes, 1)
            self.assertIsNone(book.undo())
            self.assertEqual(state(book), before)

    def test_one_after_the_other(self):
        book = Book(pair_table())
        states = [state(book)]
        for use in [lambda: book.root(chain(1)), lambda: book.add(SINK), lambda: book.root(("sink", ("one",))),
                    lambda: book.unroot(chain(1)), lambda: book.drop("pair", "box"), lambda: book.change(ONE)]:
            use()
            states.append(state(book))
        self.assertEqual([row[2] for row in states], list(range(7)))
        while states:
            self.assertEqual(state(book), states.pop())
            if states:
                book.undo()
        self.refused(book, NothingDone, book.undo)

    def test_the_last_that_has_not_been_taken_back(self):
        book = Book(pair_table())
        book.root(chain(1))
        book.root(chain(2))
        book.undo()
        book.root(chain(3))
        self.assertEqual((book.roots, book.changes), ((chain(1), chain(3)), 2))
        book.undo()
        self.assertEqual((book.roots, book.changes), ((chain(1),), 1))
        book.undo()
        self.assertEqual((book.roots, book.changes), ((), 0))

    def test_what_was_refused_is_not_taken_back(self):
        book = Book(pair_table())
        book.root(chain(1))
        self.refused(book, NoRoots, lambda: book.root(chain(1)))
        self.refused(book, NoClass, lambda: book.add(ONE))
        book.undo()
        self.assertEqual((book.roots, book.changes), ((), 0))

    def test_many_changes(self):
        book = Book(pair_table())
        for at in range(500):
            book.root(("one",))
            book.unroot(("one",))
        self.assertEqual(book.changes, 1000)
        for at in range(1000):
            book.undo()
        self.refused(book, NothingDone, book.undo)


class DoTest(Refusing):
    def test_several_in_order(self):
        book = Book(pair_table(), ("one",))
        low = bare("low", ("sink", ("one",)))
        self.done(book, lambda: book.do(("add", SINK, low), ("root", ("low",)), ("unroot", ("one",)), ("drop", "pair"),
                                        ("change", bare("low", ("box", ("one",))))),
                  [ONE, BOX, SINK, bare("low", ("box", ("one",)))], [("low",)], 5)
        for changes in [4, 3, 2, 1, 0]:
            book.undo()
            self.assertEqual(book.changes, changes)
        self.assertEqual(state(book), state(Book(pair_table(), ("one",))))

    def test_none(self):
        book = Book(pair_table(), ("one",))
        self.done(book, book.do, pair_table().classes, [("one",)], 0)
        book.root(chain(1))
        self.done(book, book.do, pair_table().classes, [("one",), chain(1)], 1)

    def test_one(self):
        book = Book(pair_table())
        self.done(book, lambda: book.do(("root", chain(2))), pair_table().classes, [chain(2)], 1)
        self.done(book, lambda: book.do(("undo",)), pair_table().classes, [], 0)

    def test_undo_takes_back_an_earlier_deed_of_the_same_do(self):
        book = Book(pair_table())
        self.done(book, lambda: book.do(("root", chain(1)), ("undo",), ("root", chain(2))),
                  pair_table().classes, [chain(2)], 1)
        self.done(book, lambda: book.do(("root", chain(3)), ("add", SINK), ("undo",), ("undo",)),
                  pair_table().classes, [chain(2)], 1)

    def test_undo_takes_back_changes_from_before(self):
        book = Book(pair_table())
        book.root(chain(1))
        book.root(chain(2))
        self.done(book, lambda: book.do(("undo",), ("undo",), ("root", chain(3))), pair_table().classes, [chain(3)], 1)
        before = state(book)
        self.refused(book, NothingDone, lambda: book.do(("undo",), ("undo",)))
        self.refused(book, NothingDone, lambda: book.do(("undo",), ("root", chain(4)), ("undo",), ("undo",)))
        self.refused(book, NoRoot, lambda: book.do(("undo",), ("unroot", chain(3))))
        self.assertEqual(state(book), before)
        book.undo()
        self.assertEqual((book.roots, book.changes), ((), 0))

    def test_all_or_none(self):
        right = [("add", SINK), ("root", chain(2)), ("drop", "pair"), ("change", BOX), ("unroot", ("one",)), ("undo",)]
        wrong = [
            (("add",), NoClass), (("add", ONE), NoClass), (("add", None), NoClass), (("drop",), NoName),
            (("drop", "two"), NoName), (("drop", "box", "box"), NoName), (("drop", "one"), NoClass),
            (("change", None), NoClass), (("change", TWO), NoName), (("root", "X"), NoType), (("root", None), NoType),
            (("unroot", ["one"]), NoType), (("unroot", chain(9)), NoRoot), (("add", bare("odd", ("odd",))), Looped),
            (("add", bare("odd", ("nowhere",))), Unfit), (("change", bare("one", ("one",))), Looped),
            (("add", ("odd", (("X", "in"),), (("box", "X"),), ())), Turned),
        ]
        for deed, error in wrong:
            for at in range(len(right) + 1):
                book = Book(pair_table(), ("one",))
                book.root(chain(7))
                deeds = right[:at] + [deed] + right[at:]
                self.refused(book, error, lambda: book.do(*deeds))
                self.assertEqual(book.changes, 1)
                book.undo()
                self.assertEqual(state(book), state(Book(pair_table(), ("one",))))

    def test_the_first_that_is_refused(self):
        book = Book(pair_table())
        self.refused(book, NoRoot, lambda: book.do(("unroot", ("one",)), ("add",), ("drop",)))
        self.refused(book, NoClass, lambda: book.do(("root", ("one",)), ("add",), ("unroot", chain(1))))

    def test_each_deed_finds_what_the_ones_before_made(self):
        book = Book(Table(ONE))
        self.done(book, lambda: book.do(("add", BOX), ("root", chain(3)), ("unroot", chain(3)), ("drop", "box")),
                  [ONE], [], 4)
        self.refused(book, NoType, lambda: book.do(("root", chain(3)), ("add", BOX)))
        self.refused(book, NoRoots, lambda: book.do(("add", BOX), ("root", chain(3)), ("drop", "box")))

    def test_no_deed(self):
        book = Book(pair_table(), ("one",))
        others = [
            ("do",), ("do", ("root", chain(1))), ("make", ONE), ("Add", ONE), ("add ", TWO), ("len",), ("__init__",),
            ("table",), ("change",), ("change", ONE, ONE), ("root",), ("root", chain(1), chain(2)), ("unroot",),
            ("unroot", ("one",), ("one",)), ("undo", None), ("undo", ()), ("undo", 1), "undo", "root", ["undo"],
            ["root", chain(1)], ["add", TWO], (["add"], TWO), (("add",), TWO), (("undo",),), (True,), (None, ONE),
            (0,), (("root", chain(1)),), ({"undo": ()},), {"undo": ()}, book, (book,), (book.undo,),
        ]
        things = [thing for thing in anything() + letters_and_values() + others]
        for thing in things:
            self.refused(book, NoDeed, lambda: book.do(thing))
            self.refused(book, NoDeed, lambda: book.do(("root", chain(1)), thing))
            self.refused(book, NoDeed, lambda: book.do(thing, ("root", chain(1))))

    def test_no_deed_ahead_of_what_the_deeds_raise(self):
        book = Book(pair_table())
        for deed in [("undo",), ("add",), ("drop",), ("root", None), ("unroot", ("one",)), ("change", TWO)]:
            self.refused(book, NoDeed, lambda: book.do(deed, None))
            self.refused(book, NoDeed, lambda: book.do(deed, ("undo", 1)))
            self.refused(book, NoDeed, lambda: book.do(None, deed))
            self.assertIsNot(told(book.do, deed), NoDeed)

    def test_add_and_drop_take_any_number(self):
        book = Book(Table(ONE))
        self.refused(book, NoClass, lambda: book.do(("add",)))
        self.refused(book, NoName, lambda: book.do(("drop",)))
        self.done(book, lambda: book.do(("add", TWO, BOX, SINK, CELL), ("drop", "two", "box", "sink", "cell")),
                  [ONE], [], 2)
        self.refused(book, NoClass, lambda: book.do(("add", *[bare("a" * at) for at in range(1, 9)])))


class LedgerTest(unittest.TestCase):
    """Long rows of changes, each compared with what is kept in a plain ledger."""

    CLASSES = [
        ONE, TWO, BOX, SINK, PAIR, DEEP, DUO, bare("one", ("two",)), bare("two", ("one",)), bare("box"),
        ("box", (("X", "in"),), (), ()), bare("low", ("box", ("box", ("one",)))), bare("low", ("nowhere",)),
        bare("one", ("one",)), bare("low", ("low",)), ("deep", (("X", "out"),), (), ()),
        ("low", (), (), (("at", "holds", ("pair", ("low",), ("one",))),)), ("low", (("X", "in"),), (("box", "X"),), ()),
    ]
    KINDS = [("one",), ("two",), ("low",), chain(1), chain(3), chain(5), ("pair", ("one",), ("box", ("two",))),
             ("sink", ("one",)), ("deep", ("one",)), ("duo", ("one",), ("deep", ("two",))), chain(65), "X"]
    NAMES = ["one", "two", "box", "sink", "pair", "deep", "duo", "low", "none"]

    def some_deed(self, dice):
        name = dice.one_of(["add", "drop", "change", "change", "root", "root", "root", "unroot", "undo"])
        if name == "undo":
            return ("undo",)
        if name in ("root", "unroot"):
            return (name, dice.one_of(self.KINDS))
        many = 1 if name == "change" else dice.below(10) * 2 // 9 + 1
        things = self.NAMES if name == "drop" else self.CLASSES
        return (name, *[dice.one_of(things) for _ in range(many)])

    def some_call(self, dice):
        if dice.below(4):
            return self.some_deed(dice)
        return ("do", *[self.some_deed(dice) for _ in range(dice.below(4))])

    def outcome(self, use, *arguments):
        try:
            use(*arguments)
        except KindError as error:
            return type(error), vars(error)
        return None

    def compare(self, book, ledger):
        classes, roots = ledger.rows[-1]
        table = Table(*classes)
        self.assertEqual((book.table, book.roots, book.changes), (table, tuple(roots), len(ledger.rows) - 1))
        self.assertEqual(book.endless, tuple(root for root in roots if verdict(table, root)[0] == "endless"))
        found = [told(needs, table, root) for root in roots]
        wrong = [one for one in found if not isinstance(one, tuple)]
        if wrong:
            self.assertEqual({told(lambda: len(book)), told(lambda: ("one",) in book)}, {wrong[0]})
        else:
            together = {kind for one in found for kind in one}
            self.assertEqual(len(book), len(together))
            for kind in self.KINDS:
                self.assertIs(kind in book, kind in together)
            for kind in list(together)[:2]:
                self.assertEqual(book(kind), tuple(why(table, root, kind) for root in roots))

    def follow(self, make, start, **refuses):
        dice = Dice(start)
        book = make(Table(ONE, BOX, DEEP), ("one",))
        ledger = Ledger([ONE, BOX, DEEP], [("one",)], **refuses)
        found = []
        for _ in range(60):
            name, *arguments = self.some_call(dice)
            before = state(book)
            expected = self.outcome(ledger.make, name, *arguments)
            self.assertEqual(self.outcome(getattr(book, name), *arguments), expected)
            if expected is not None:
                self.assertEqual(state(book), before)
            self.compare(book, ledger)
            found.append(expected and expected[0].__name__)
        return found

    def test_each_class_of_books(self):
        seen = collections.Counter()
        for start in range(12):
            for make, refuses in [(Book, {}), (Ending, {"ends": True}), (Capped, {"most": 20}),
                                  (EndingCapped, {"ends": True, "most": 20}),
                                  (lambda *rest: Capped(*rest, most=6), {"most": 6}),
                                  (lambda *rest: EndingCapped(*rest, most=4), {"ends": True, "most": 4})]:
                seen.update(self.follow(make, start + 40000, **refuses))
        for name in [None, "NoClass", "NoName", "NoType", "NoRoot", "NoRoots", "NothingDone", "Unfit", "Looped",
                     "Turned", "Endless", "Crowded"]:
            self.assertGreater(seen[name], 4, name)


if __name__ == "__main__":
    unittest.main()
