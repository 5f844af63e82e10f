"""Types: letters and class types, their measures and their texts [10], [11], [12].

Types may be nested far deeper than calls may be, so all that goes through a
type keeps a list of what is still to be seen and calls itself nowhere.
"""

from endlesskinds.errors import NoText, NoType, NoValues

LONGEST_NAME = 8
MOST_ARGUMENTS = 2


def is_letter(thing):
    return isinstance(thing, str) and len(thing) == 1 and "A" <= thing <= "Z"


def is_name(thing):
    if not isinstance(thing, str) or len(thing) > LONGEST_NAME:
        return False
    return thing.isascii() and thing.isalpha() and thing.islower()


def begins_class_type(thing):
    """Whether any value is a class type if its arguments, which are not looked at, are types."""
    if not isinstance(thing, tuple) or not 1 <= len(thing) <= 1 + MOST_ARGUMENTS:
        return False
    return is_name(thing[0])


def is_type(thing):
    """Whether any value is a type."""
    rest = [thing]
    while rest:
        part = rest.pop()
        if begins_class_type(part):
            rest.extend(part[1:])
        elif not is_letter(part):
            return False
    return True


def check_type(thing):
    if not is_type(thing):
        raise NoType("this is not a type")


def parts(kind):
    """All parts of a type, each one ahead of those of its arguments, these from left to right."""
    found = []
    rest = [kind]
    while rest:
        part = rest.pop()
        found.append(part)
        if isinstance(part, tuple):
            rest.extend(part[:0:-1])
    return found


def class_types(kinds):
    return [kind for kind in kinds if isinstance(kind, tuple)]


def size_of(kind):
    """The size of what is known to be a type."""
    return len(class_types(parts(kind)))


def size(kind):
    """How many names are in a type."""
    check_type(kind)
    return size_of(kind)


def depth_of(kind):
    """The depth of what is known to be a type."""
    count = 0
    level = class_types([kind])
    while level:
        count += 1
        level = class_types([argument for part in level for argument in part[1:]])
    return count


def depth(kind):
    """How deep class types are nested in a type: 0 for a letter."""
    check_type(kind)
    return depth_of(kind)


def folded(kind, of_letter, of_class):
    """What a type comes to, its arguments ahead of it.

    of_letter makes something of a letter, of_class of a name and of what the
    arguments came to.
    """
    done = []
    # From the last part to the first, so that the arguments of a class type
    # are done ahead of it, its first argument last of all.
    for part in parts(kind)[::-1]:
        if isinstance(part, str):
            done.append(of_letter(part))
        else:
            arguments = [done.pop() for _ in part[1:]]
            done.append(of_class(part[0], arguments))
    return done.pop()


def filled(kind, values):
    """What fill returns for what is known to be a type and values."""
    return folded(kind, lambda letter: values.get(letter, letter), lambda name, arguments: (name, *arguments))


def are_values(thing):
    if not isinstance(thing, dict):
        return False
    return all([is_letter(letter) and is_type(kind) for letter, kind in thing.items()])


def fill(kind, values):
    """A type with its letters replaced by their values, all at once."""
    check_type(kind)
    if not are_values(values):
        raise NoValues("this is not a dict of letters and types")
    return filled(kind, values)


def written(kind):
    """The name and the arguments of a class type, and the signs between them, as they are written."""
    row = [kind[0]]
    before = "("
    for argument in kind[1:]:
        row.extend([before, argument])
        before = ", "
    if len(kind) > 1:
        row.append(")")
    return row


def text_of(kind):
    """The text of what is known to be a type."""
    pieces = []
    rest = [kind]
    while rest:
        part = rest.pop()
        if isinstance(part, str):
            pieces.append(part)
        else:
            rest.extend(written(part)[::-1])
    return "".join(pieces)


def text(kind):
    """The text of a type."""
    check_type(kind)
    return text_of(kind)


def word_at(line, at):
    """The letters that stand at a place of a line: no more than one too many for a name."""
    end = at
    while end < len(line) and end - at <= LONGEST_NAME and line[end].isalpha():
        end += 1
    return line[at:end]


def scan(line, at):
    """The type whose text begins at a place of a line, and the place behind it."""
    begun = []
    while True:
        word = word_at(line, at)
        at += len(word)
        if is_name(word) and line.startswith("(", at):
            begun.append([word])
            at += 1
            continue
        if not is_name(word) and not is_letter(word):
            raise NoText("a letter or a name is missing")
        done = word if is_letter(word) else (word,)
        while begun and line.startswith(")", at):
            begun[-1].append(done)
            done = tuple(begun.pop())
            at += 1
        if not begun:
            return done, at
        begun[-1].append(done)
        if len(begun[-1]) > MOST_ARGUMENTS or not line.startswith(", ", at):
            raise NoText("arguments are not ended")
        at += 2


def read(text):
    """The type that has exactly this text."""
    if not isinstance(text, str):
        raise NoText("this is not a text")
    kind, end = scan(text, 0)
    if end < len(text):
        raise NoText("more stands behind a type")
    return kind
