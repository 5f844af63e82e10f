"""Types that are kept once each, however often they stand within others.

A type that doubles in size again and again is made of few different parts. So
each part has a number here, and a type is found by its name and the numbers of
its arguments, without going through it whole.
"""

from endlesskinds.classes import declared, letters_of
from endlesskinds.types import folded


class Pool:
    """Types of some classes, each with a number."""

    def __init__(self, classes):
        self._letters = {one[0]: letters_of(one) for one in classes}
        self._parents = {one[0]: one[2] for one in classes}
        self._declared = {one[0]: declared(one) for one in classes}
        self._numbers = {}
        self._rows = []
        self._kinds = []
        self._sizes = []

    def _keep(self, row, kind, names):
        """Give the next number to a type, which has so many names in it."""
        self._numbers[row] = len(self._rows)
        self._rows.append(row)
        self._kinds.append(kind)
        self._sizes.append(names)

    def put_letter(self, letter):
        """The number of a letter that stands for itself."""
        row = (letter,)
        if row not in self._numbers:
            self._keep(row, letter, 0)
        return self._numbers[row]

    def put_class(self, name, arguments):
        """The number of the type with a name and with arguments of some numbers."""
        row = (name, *arguments)
        if row not in self._numbers:
            kinds = [self._kinds[argument] for argument in arguments]
            self._keep(row, (name, *kinds), 1 + sum([self._sizes[argument] for argument in arguments]))
        return self._numbers[row]

    def put(self, kind, numbers):
        """The number of a type in which each letter stands for the type with its number."""
        return folded(kind, lambda letter: numbers[letter], lambda name, arguments: self.put_class(name, arguments))

    def put_open(self, kind):
        """The number of a type in which each letter stands for itself."""
        return folded(
            kind, lambda letter: self.put_letter(letter), lambda name, arguments: self.put_class(name, arguments))

    def put_filled(self, number, kinds):
        """The numbers of some types that the class of the type with a number declares, its arguments filled in."""
        name, *arguments = self._rows[number]
        numbers = dict(zip(self._letters[name], arguments))
        return [self.put(kind, numbers) for kind in kinds]

    def kinds_of(self, numbers):
        """The types with some numbers."""
        return tuple([self._kinds[number] for number in numbers])

    def row_of(self, number):
        """The name of the type with a number, or the letter that it is, and the numbers of its arguments."""
        return self._rows[number]

    def size_of(self, number):
        """The size of the type with a number."""
        return self._sizes[number]

    def precedes(self, one, other):
        """Whether the text of a type is less than that of another one, with another number.

        All signs that end a name are less than those that may go on with it,
        letters are less than names, and types with one name have as many
        arguments. So the names decide, and then the first arguments that are
        unlike.
        """
        row, against = self._rows[one], self._rows[other]
        while row[0] == against[0]:
            at = 1 if row[1] != against[1] else 2
            row, against = self._rows[row[at]], self._rows[against[at]]
        return row[0] < against[0]

    def ascending(self, numbers):
        """The different ones of some numbers, in the order of the types' texts."""
        found = []
        for number in sorted(set(numbers)):
            low, high = 0, len(found)
            while low < high:
                middle = (low + high) // 2
                if self.precedes(found[middle], number):
                    low = middle + 1
                else:
                    high = middle
            found.insert(low, number)
        return found

    def needs_of(self, number):
        """The numbers of the needs of the closed type with a number, ascending."""
        name, *arguments = self._rows[number]
        return self.ascending(arguments + self.put_filled(number, self._declared[name]))

    def parents_of(self, number):
        """The numbers of the parents of the type with a number; a letter has none."""
        name = self._rows[number][0]
        return self.put_filled(number, self._parents[name]) if name in self._parents else []

    def ancestors_of(self, number):
        """The numbers of the ancestors of the type with a number, in no special order."""
        found = {}
        rest = [number]
        while rest:
            one = rest.pop()
            found[one] = True
            rest.extend([parent for parent in self.parents_of(one) if parent not in found])
        return list(found)
