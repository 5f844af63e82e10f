"""Variances, and the signs of the places at which letters stand [50], [51]."""

VARIANCES = ("out", "in", "same")

PLUS = "+"
BOTH = "+-"

TURNED = {"+": "-", "-": "+", "+-": "+-"}

# The sign that no place of a parameter of this variance may have.
BARRED = {"out": "-", "in": "+"}


def passed_on(sign, variance):
    """The sign of an argument of a class type that has a sign, for a parameter of this variance."""
    if variance == "out":
        return sign
    if variance == "in":
        return TURNED[sign]
    return BOTH


def signed_letters(kind, sign, variances):
    """The letter and the sign of each place in a type that has a sign.

    variances has, for the name of each class, those of its parameters.
    """
    places = []
    rest = [(kind, sign)]
    while rest:
        part, own = rest.pop()
        if isinstance(part, str):
            places.append((part, own))
        else:
            for argument, variance in zip(part[1:], variances[part[0]]):
                rest.append((argument, passed_on(own, variance)))
    return places


def is_barred(sign, variance):
    """Whether a parameter of this variance is wrong because of a place with this sign."""
    return variance != "same" and BARRED[variance] in sign
