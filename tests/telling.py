"""What the tests share: an exact comparison, and rows of things to ask about."""

import unittest
from fractions import Fraction

# Tops and bottoms of forty figures, the most that is handed in.
GREAT = 10 ** 39 + 7
GREATER = 10 ** 40 - 1
# Primes: nothing but themselves divides them.
PRIME = 10 ** 20 + 39
OTHER_PRIME = 2 ** 89 - 1


def number(fraction):
    fraction = Fraction(fraction)
    return (fraction.numerator, fraction.denominator)


def place(x, y):
    return (number(x), number(y))


def fractions(told):
    return (Fraction(*told[0]), Fraction(*told[1]))


def nested(thing, deep):
    """The thing within so many tuples."""
    for _ in range(deep):
        thing = (thing,)
    return thing


# Things of each kind that any thing is built of; none of them is a number, a place, a step or a program's text.
OTHER_THINGS = [
    None, True, False, 0, 1, -1, GREATER, [], (), [1], (1,), [None], ("",), (None, None), [[]], ((),), "9" * 4000,
    nested((1, 2), 7), [nested(1, 6), 2], [1, 2] * 2000, (None,) * 4999, ("hop",) * 3, [("hop", 1)],
]


class Telling(unittest.TestCase):
    def told(self, told, due):
        """Compare by what is written out: 1 and True, or a list and a tuple, are unlike."""
        self.assertEqual(repr(told), repr(due))
        self.assertEqual(told, due)

    def refused(self, kind, values, function, *handed):
        """The call is refused with just this class, and with just these values by their names."""
        with self.assertRaises(kind) as caught:
            function(*handed)
        self.assertIs(caught.exception.__class__, kind)
        self.told(vars(caught.exception), values)
