"""Signs: what a sign makes of two values."""

from turnguard.programs import VALUE_END


def value(sign, one, other):
    """The value of a sign and two values."""
    if sign in ("+", "-", "*"):
        return reckoned(sign, one, other) % VALUE_END
    if sign == "/":
        return one // other if other != 0 else 0
    # Values are no truths, so that what is told of two is told as 1 or 0.
    if sign == "<":
        return 1 if one < other else 0
    if sign == "=":
        return 1 if one == other else 0
    return bit_by_bit(sign, one, other)


def reckoned(sign, one, other):
    """Sum, difference or product, which may lie beyond all values."""
    if sign == "+":
        return one + other
    if sign == "-":
        return one - other
    return one * other


def bit_by_bit(sign, one, other):
    """What and, or, either make of the bits of two values."""
    if sign == "&":
        return one & other
    if sign == "|":
        return one | other
    return one ^ other
