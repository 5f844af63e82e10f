"""Values that the tests share, and what they ask of functions."""

import inspect
import itertools

from endlesskinds import errors
from endlesskinds.books import Book
from endlesskinds.tables import Table

ONE = ("one", (), (), ())
TWO = ("two", (), (), ())
BOX = ("box", (("X", "out"),), (), (("first", "reads", "X"),))
SINK = ("sink", (("X", "in"),), (), (("put", "takes", "X"),))
CELL = ("cell", (("X", "same"),), (), (("at", "holds", "X"),))
PAIR = (
    "pair",
    (("X", "out"), ("Y", "same")),
    (("box", "X"), ("one",)),
    (("first", "reads", "X"), ("second", "holds", ("box", "Y"))),
)

# Like pair, without needs of its own.
DUO = ("duo", (("X", "out"), ("Y", "out")), (), ())
DEEP = ("deep", (("X", "out"),), (), (("more", "reads", ("deep", ("box", "X"))),))
# Its types double in size from layer to layer.
TWICE = ("twice", (("X", "out"),), (), (("more", "reads", ("twice", ("duo", "X", "X"))),))

# What a text may be made of: the percent sign is left out.
SIGNS = ["\n"] + [chr(code) for code in range(32, 127) if code != 37]

PAIR_TEXT = (
    "class one\n"
    "class box[out X]\n"
    "  reads first X\n"
    "class pair[out X, same Y] from box(X), one\n"
    "  reads first X\n"
    "  holds second box(Y)\n"
)


def bare(name, *parents):
    """A class without parameters and members."""
    return (name, (), parents, ())


def pair_table():
    return Table(ONE, BOX, PAIR)


def reading(name, letters, *kinds):
    """A class with parameters that are out, which reads some types."""
    members = [(member, "reads", kind) for member, kind in zip("ab", kinds)]
    return (name, tuple((letter, "out") for letter in letters), (), tuple(members))


def nested(thing, times, wrap):
    for _ in range(times):
        thing = wrap(thing)
    return thing


def chain(length, end=("one",)):
    """box(box(...)), as deep as told above its end."""
    return nested(end, length, lambda kind: ("box", kind))


def endless_book():
    """A book that has no length."""
    return Book(Table(ONE, BOX, DEEP), ("deep", ("one",)))


def anything():
    """Values of all kinds, none of them a type, a class, a text of these, or the name of a class."""
    table = pair_table()
    return [
        0, 1, -1, 5, 10 ** 13 - 1, True, False, None,
        "", " ", "\n", "x y", "(", ")", "()", "1", "A1", "Xa", "AB", "aB", "toolongname", "one()", "X()",
        "out X", "class ", "class one", "  reads first X\n", "a-b", "a_b", "~", "[", "@", "`", "{", "0",
        (), [], {}, [[]], ((),), [()], ({},), {"X": []}, {(): {}}, {1: True, None: ()},
        ["one"], ["box", ["one"]], ("box", ["one"]), [("one",)], ("",), (1,), (True,), (None,), ((("one",),),),
        ("X",), ("Box",), ("bOx", "X"), ("box", "x"), ("box", "box"), ("box", "XY"), ("box", ""), ("box", None),
        ("box", True), ("box", 1), ("box", ("box", 0)), ("box", ()), ("box", []), ("box", {}), ("box", table),
        ("box", "X", ""), ("box", "", "X"), ("box", ("one",), ["one"]), ("ninechars",), ("one ",), ("on3",),
        ("box", "X", "X", "X"), ("box", "@"), ("box", "["), ("`",), ("one", ("box", "X", "Y", "Z")),
        table, [table], (table,), (table, "X"), {"X": table},
        Book(table, ("one",)), endless_book(), (endless_book(),), ("box", endless_book()), {"X": [endless_book()]},
        errors.NoType("told"), errors.Unfit("box"), (errors.Turned("box", "X"),), [errors.Endless((("box", "X"),))],
        nested([], 19, lambda thing: [thing]),
        nested((), 19, lambda thing: (thing,)),
        nested({}, 19, lambda thing: {"X": thing}),
        nested(["X"], 18, lambda thing: ("box", thing)),
        nested(table, 19, lambda thing: ("box", thing)),
        tuple(["X"] * 7999), ["X"] * 7999, ("box",) * 7999, ("box", ("X",) * 7990),
        {number: "X" for number in range(3999)},
        tuple([("box", "X")] * 2600),
    ]


def letters_and_values():
    """Values that are letters, types or names, but not classes, nor their texts."""
    return ["X", "Y", "Z", "A", "one", "abcdefgh", ("one",), ("box", "X"), ("pair", "X", ("one",)), chain(30)]


def told(function, *values, **named):
    """What a function returns, or the class of its exception; of a generator what it yields at first."""
    try:
        result = function(*values, **named)
        if inspect.isgenerator(result):
            return list(itertools.islice(result, 5))
        return result
    except errors.KindError as error:
        return type(error)


def no_tables():
    things = [thing for thing in anything() + letters_and_values() if not isinstance(thing, Table)]
    classes = pair_table().classes
    return things + [classes, list(classes), ONE, classes[0], pair_table().names, pair_table().text(), (pair_table(),)]
