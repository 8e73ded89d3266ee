"""Numbers: tuples (top, bottom) of whole numbers, the bottom above 0, in lowest terms."""

from math import gcd, isqrt

from toolroad.errors import OverNought


def is_whole_number(thing):
    """Whether any thing is an int that is no truth."""
    return isinstance(thing, int) and not isinstance(thing, bool)


def is_number(thing):
    """Whether any thing is a number."""
    if not isinstance(thing, tuple) or len(thing) != 2:
        return False
    top, bottom = thing
    if not is_whole_number(top) or not is_whole_number(bottom):
        return False
    return bottom > 0 and gcd(top, bottom) == 1


def ratio(top, bottom=1):
    """The number of two whole numbers."""
    if bottom == 0:
        raise OverNought("a number with the bottom 0")
    shared = gcd(top, bottom)
    if bottom < 0:
        shared = -shared
    return (top // shared, bottom // shared)


def plus(u, v):
    """The sum of two numbers."""
    return ratio(u[0] * v[1] + v[0] * u[1], u[1] * v[1])


def minus(u, v):
    """The difference of two numbers."""
    return ratio(u[0] * v[1] - v[0] * u[1], u[1] * v[1])


def opposite(u):
    """The number with the other sign."""
    return (-u[0], u[1])


def times(u, v):
    """The product of two numbers."""
    return ratio(u[0] * v[0], u[1] * v[1])


def over(u, v):
    """The quotient of two numbers."""
    return ratio(u[0] * v[1], u[1] * v[0])


def is_below(u, v):
    """Whether the one number is below the other one."""
    return u[0] * v[1] < v[0] * u[1]


def whole(u):
    """The greatest whole number that is not above a number."""
    return u[0] // u[1]


def root(u):
    """The number from 0 on that, times itself, is this one; None where there is none."""
    top, bottom = u
    if top < 0:
        return None
    # In lowest terms top and bottom share nothing, so each must be a square by itself.
    found = (isqrt(top), isqrt(bottom))
    if found[0] * found[0] != top or found[1] * found[1] != bottom:
        return None
    return found


def number_text(u):
    """The text of a number."""
    top, bottom = u
    if bottom == 1:
        return str(top)
    return f"{top}/{bottom}"
