"""Places: tuples (x, y) of numbers. A heading is a place at the distance 1 from ((0, 1), (0, 1))."""

from toolroad.amounts import minus, over, plus, ratio, root, times
from toolroad.errors import NoHeading

NOUGHT = (0, 1)


def heading_of(p, q):
    """The heading of two whole numbers, not both 0."""
    if p == 0 and q == 0:
        raise NoHeading("p and q are both 0")
    both = p * p + q * q
    return (ratio(q * q - p * p, both), ratio(2 * p * q, both))


def turned(place, by):
    """A place turned by a heading."""
    x, y = place
    c, s = by
    return (minus(times(x, c), times(y, s)), plus(times(x, s), times(y, c)))


def difference(one, other):
    """What leads from one place to another one, as a place."""
    return (minus(other[0], one[0]), minus(other[1], one[1]))


def distance(one, other):
    """The distance of two places: a number, or None where it is none."""
    x, y = difference(one, other)
    return root(plus(times(x, x), times(y, y)))


def heading_to(one, other):
    """The heading from one place to another one."""
    far = distance(one, other)
    if far is None or far == NOUGHT:
        raise NoHeading("the distance of the two places is no number above 0")
    x, y = difference(one, other)
    return (over(x, far), over(y, far))
