"""Places: tuples (x, y) of numbers. A heading is a place at the distance 1 from ((0, 1), (0, 1))."""

from toolroad.amounts import is_number, minus, number_text, opposite, over, plus, ratio, root, times
from toolroad.errors import NoHeading

NOUGHT = (0, 1)
ORIGIN = ((0, 1), (0, 1))


def is_place(thing):
    """Whether any thing is a place."""
    return isinstance(thing, tuple) and len(thing) == 2 and is_number(thing[0]) and is_number(thing[1])


def place_text(place):
    """The text of a place."""
    x, y = place
    return f"{number_text(x)},{number_text(y)}"


def heading_of(p, q):
    """The heading of two whole numbers, not both 0."""
    if p == 0 and q == 0:
        raise NoHeading("p and q are both 0")
    both = p * p + q * q
    return (ratio(q * q - p * p, both), ratio(2 * p * q, both))


def turned(place, by):
    """A place turned by a heading."""
    x, y = place
    c, s = by
    return (minus(times(x, c), times(y, s)), plus(times(x, s), times(y, c)))


def left_of(heading):
    """The heading square to this one, to its left."""
    return turned(heading, ((0, 1), (1, 1)))


def mirrored(place):
    """A place with the other sign of its y."""
    return (place[0], opposite(place[1]))


def scaled(place, by):
    """A place whose x and y are so many times as great."""
    return (times(place[0], by), times(place[1], by))


def added(one, other):
    """Two places' sum, in x and in y."""
    return (plus(one[0], other[0]), plus(one[1], other[1]))


def difference(one, other):
    """What leads from one place to another one, as a place."""
    return (minus(other[0], one[0]), minus(other[1], one[1]))


def dot(one, other):
    """x times x and y times y together: 0 where the two directions are square to one another."""
    return plus(times(one[0], other[0]), times(one[1], other[1]))


def cross(one, other):
    """A number above 0 where the other direction is to the left of the one, below 0 where to the right."""
    return minus(times(one[0], other[1]), times(one[1], other[0]))


def distance(one, other):
    """The distance of two places: a number, or None where it is none."""
    apart = difference(one, other)
    return root(dot(apart, apart))


def span(one, other):
    """The distance of two places where it is a number above 0, else None."""
    far = distance(one, other)
    return None if far == NOUGHT else far


def heading_to(one, other):
    """The heading from one place to another one."""
    far = span(one, other)
    if far is None:
        raise NoHeading("the distance of the two places is no number above 0")
    x, y = difference(one, other)
    return (over(x, far), over(y, far))
