"""Tests of books: what is kept in them, and what they refuse."""

import unittest

from endlesskinds.books import Capped
from endlesskinds.tables import Table
from helpers import BOX, DEEP, ONE


def state(book):
    """All that is kept in a book."""
    return (book.table, book.roots, book.changes, book.endless, book.most if isinstance(book, Capped) else None)


def deep_table():
    return Table(ONE, BOX, DEEP)


class Refusing(unittest.TestCase):
    """Tests of changes that are refused, and leave the book as it was."""

    def refused(self, book, error, use, **fields):
        before = state(book)
        with self.assertRaises(error) as caught:
            use()
        self.assertIs(type(caught.exception), error)
        for field, value in fields.items():
            self.assertEqual(getattr(caught.exception, field), value)
        self.assertEqual(state(book), before)

    def done(self, book, use, classes, roots, changes):
        self.assertIsNone(use())
        self.assertEqual(book.table, Table(*classes))
        self.assertEqual(book.table.classes, tuple(classes))
        self.assertEqual(book.roots, tuple(roots))
        self.assertEqual(book.changes, changes)
