"""Books: tables with roots, which change, and books that refuse some changes [70], [71]."""

from endlesskinds.checks import check_kind, check_table, is_integer
from endlesskinds.deeds import check_deeds, first_page, made
from endlesskinds.errors import Crowded, Endless, NoMost, NothingDone
from endlesskinds.needs import why
from endlesskinds.pages import cycles_on, is_crowded, needed_on

LARGEST_MOST = 100


def check_most(thing):
    if not is_integer(thing) or not 1 <= thing <= LARGEST_MOST:
        raise NoMost("most is an integer from 1 to 100")


class Book:
    """A table and up to four types of it, its roots; both may be changed, and changes taken back."""

    def __init__(self, table, *roots):
        check_table(table)
        self._begin(table, roots, None)

    def _begin(self, table, roots, most):
        """Write the first page; behind it there is one for each change that is not taken back."""
        self._most = most
        page = first_page(table, roots)
        self._check(page)
        self._pages = [page]

    def _check(self, page):
        """Raise what keeps a page out of the book: nothing does here."""

    @property
    def table(self):
        """The table."""
        return self._pages[-1].own_table

    @property
    def roots(self):
        """The roots, in their order."""
        return self._pages[-1].own_roots

    @property
    def changes(self):
        """How many changes have not been taken back."""
        return len(self._pages) - 1

    @property
    def endless(self):
        """The roots whose needs are endless, in their order."""
        page = self._pages[-1]
        return tuple([root for root, cycle in zip(page.own_roots, cycles_on(page)) if cycle is not None])

    def add(self, *classes):
        """Add classes at the end of the table."""
        self.do(("add", *classes))

    def drop(self, *names):
        """Leave classes out of the table."""
        self.do(("drop", *names))

    def change(self, one):
        """Put a class in the place of the one with its name."""
        self.do(("change", one))

    def root(self, kind):
        """Add a root at the end."""
        self.do(("root", kind))

    def unroot(self, kind):
        """Remove a root."""
        self.do(("unroot", kind))

    def undo(self):
        """Take back the last change that has not been taken back."""
        self.do(("undo",))

    def do(self, *deeds):
        """Make several changes in order, or none."""
        check_deeds(deeds)
        pages = list(self._pages)
        for deed in deeds:
            if deed[0] != "undo":
                page = made(pages[-1], deed)
                self._check(page)
                pages.append(page)
            elif len(pages) > 1:
                pages.pop()
            else:
                raise NothingDone("there is no change to take back")
        self._pages = pages

    def __len__(self):
        return len(needed_on(self._pages[-1]))

    def __contains__(self, x):
        return x in needed_on(self._pages[-1])

    def __call__(self, kind):
        """For each root why it needs a type, or None."""
        table = self.table
        check_kind(table, kind)
        return tuple([why(table, root, kind) for root in self.roots])

    def __eq__(self, other):
        if not isinstance(other, Book) or self.__class__.__name__ != other.__class__.__name__:
            return False
        return self._most == other._most and self._pages[-1] == other._pages[-1]

    def __repr__(self):
        return "".join([self.__class__.__name__, f"({len(self._pages[-1].own_roots)} roots)"])


class Ending(Book):
    """A book that refuses what makes the needs of a root endless."""

    def __init__(self, table, *roots):
        check_table(table)
        self._begin(table, roots, None)

    def _check(self, page):
        cycles = [cycle for cycle in cycles_on(page) if cycle is not None]
        if cycles:
            raise Endless(cycles[0])
        super()._check(page)


class Capped(Book):
    """A book that refuses what makes its roots need more types together than most."""

    def __init__(self, table, *roots, most=20):
        check_table(table)
        check_most(most)
        self._begin(table, roots, most)

    def _check(self, page):
        super()._check(page)
        if is_crowded(page, self._most):
            raise Crowded("the roots need too many types")

    @property
    def most(self):
        """How many types the roots may need together."""
        return self._most


class EndingCapped(Ending, Capped):
    """A book that refuses what an Ending or a Capped refuses."""

    def __init__(self, table, *roots, most=20):
        check_table(table)
        check_most(most)
        self._begin(table, roots, most)

    @property
    def most(self):
        """How many types the roots may need together."""
        return self._most
