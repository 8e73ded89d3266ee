"""What the tests share: an exact comparison, and rows of things to ask about."""

import unittest

# Tops and bottoms of forty figures, the most that is handed in.
GREAT = 10 ** 39 + 7
GREATER = 10 ** 40 - 1
# Primes: nothing but themselves divides them.
PRIME = 10 ** 20 + 39
OTHER_PRIME = 2 ** 89 - 1


def nested(thing, deep):
    """The thing within so many tuples."""
    for _ in range(deep):
        thing = (thing,)
    return thing


class Telling(unittest.TestCase):
    def told(self, told, due):
        """Compare by what is written out: 1 and True, or a list and a tuple, are unlike."""
        self.assertEqual(repr(told), repr(due))
        self.assertEqual(told, due)
