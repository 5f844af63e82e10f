"""The text of a table [23]: written from its classes, and read back into them."""

from endlesskinds.errors import NoText
from endlesskinds.types import read, scan, text_of


def parameters_text(parameters):
    if not parameters:
        return ""
    return "[" + ", ".join([f"{variance} {letter}" for letter, variance in parameters]) + "]"


def parents_text(parents):
    if not parents:
        return ""
    return " from " + ", ".join([text_of(parent) for parent in parents])


def class_text(one):
    name, parameters, parents, members = one
    lines = [f"class {name}{parameters_text(parameters)}{parents_text(parents)}\n"]
    for member, way, kind in members:
        lines.append(f"  {way} {member} {text_of(kind)}\n")
    return "".join(lines)


def classes_text(classes):
    return "".join([class_text(one) for one in classes])


def read_parameters(words):
    """The parameters written behind the opening bracket of a class's line."""
    if not words:
        return ()
    pairs = [pair.partition(" ") for pair in words[:-1].split(", ")]
    return tuple([(pair[2], pair[0]) for pair in pairs])


def read_parents(words):
    """The parents in a text, with two signs, a comma and a space, between two."""
    kinds = []
    at = 0
    while at < len(words):
        kind, at = scan(words, at)
        kinds.append(kind)
        at += 2
    return tuple(kinds)


def read_head(line):
    """The class that a line begins, still without members."""
    head, _, parents = line.partition(" from ")
    name, _, parameters = head.partition("[")
    return name, read_parameters(parameters), read_parents(parents), ()


def with_member(one, line):
    """A class with one member more, which is written in a line."""
    words = line.split(" ", 2)
    if len(words) != 3:
        raise NoText("this is not the line of a member")
    name, parameters, parents, members = one
    return name, parameters, parents, (*members, (words[1], words[0], read(words[2])))


def read_classes(words):
    """What is written as classes in a text.

    Only what is written right is sure to be read right: who calls this
    makes a table of it, and asks whether its text is the one that was read.
    """
    if not isinstance(words, str):
        raise NoText("this is not a text")
    classes = []
    for line in words.split("\n")[:-1]:
        if line.startswith("class "):
            classes.append(read_head(line[6:]))
        elif line.startswith("  ") and classes:
            classes[-1] = with_member(classes[-1], line[2:])
        else:
            raise NoText("this is neither the line of a class nor of a member")
    return classes
