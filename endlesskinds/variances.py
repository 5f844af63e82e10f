"""Variances, and the signs of the places at which letters stand [50], [51]."""

VARIANCES = ("out", "in", "same")

PLUS = "+"
BOTH = "+-"

TURNED = {"+": "-", "-": "+", "+-": "+-"}

# The sign of a member's type, by the member's way.
SIGN_OF = {"reads": "+", "takes": "-", "holds": "+-"}

# The sign that no place of a parameter of this variance may have.
BARRED = {"out": "-", "in": "+"}


def passed_on(sign, variance):
    """The sign of an argument of a class type that has a sign, for a parameter of this variance."""
    if variance == "out":
        return sign
    if variance == "in":
        return TURNED[sign]
    return BOTH


def signed_letters(kind, sign, variances):
    """The letter and the sign of each place in a type that has a sign.

    variances has, for the name of each class, those of its parameters; in an
    argument for one whose variance is None, no place has a sign.
    """
    places = []
    rest = [(kind, sign)]
    while rest:
        part, own = rest.pop()
        if isinstance(part, str):
            places.append((part, own))
        else:
            for argument, variance in zip(part[1:], variances[part[0]]):
                if variance is not None:
                    rest.append((argument, passed_on(own, variance)))
    return places


def signed_places(one, variances):
    """The letter and the sign of each place in the declared types of a class."""
    kinds = [(parent, PLUS) for parent in one[2]] + [(member[2], SIGN_OF[member[1]]) for member in one[3]]
    return [place for kind, sign in kinds for place in signed_letters(kind, sign, variances)]


def is_barred(sign, variance):
    """Whether a parameter of this variance is wrong because of a place with this sign."""
    return variance != "same" and BARRED[variance] in sign


def wrong_letters(parameters, places):
    """The parameters that are not right because of some places: of each the letter and the barred sign."""
    wrong = []
    for letter, variance in parameters:
        if any([found == letter and is_barred(sign, variance) for found, sign in places]):
            wrong.append((letter, BARRED[variance]))
    return wrong
