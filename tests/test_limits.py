import random
import unittest
from fractions import Fraction

from toolroad.errors import MillError
from toolroad.limits import DOWN, JOLT, PULL, UP, entry_caps, joint_caps
from toolroad.roads import road_of
from toolroad.ways import way_of
from telling import GREATER, Telling, fractions, number, place
from test_ways import Cut, dot, length, made_up, minus

TINY = Fraction(1, 10 ** 30)
EAST, NORTH, WEST, SOUTH = (1, 0), (0, 1), (-1, 0), (0, -1)


def way_along(*parts):
    """A way from (0, 0), of ("hop", pace, end), ("line", pace, heading, length), ("arc", pace, out, heading, way)."""
    x = y = Fraction(0)
    way = []
    for at, (word, pace, *rest) in enumerate(parts):
        begin, more = place(x, y), ()
        if word == "hop":
            x, y = rest[0]
        elif word == "line":
            (c, s), far = rest
            x, y = x + Fraction(c) * far, y + Fraction(s) * far
        else:
            # Out leads from the centre to the begin; the heading tells how far round it goes.
            (a, b), (c, s), turn = rest
            a, b, c, s = map(Fraction, (a, b, c, s))
            more = (place(x - a, y - b), turn)
            x, y = x - a + a * c - b * s * turn, y - b + a * s * turn + b * c
        way.append(((word, begin, place(x, y), *more), pace, at))
    return way


def round_of(pace, radius, way=1):
    """Once round by a radius, heading north at both ends where it goes to the left."""
    return ("arc", pace, (radius, 0), (1, 0), way)


class ConstantsTest(Telling):
    def test_constants(self):
        self.told((PULL, JOLT, UP, DOWN), ((2, 1), (1, 1), (1, 1), (1, 2)))


class EntryCapsTest(Telling):
    def caps(self, due, *parts, **limits):
        way = way_along(*parts)
        with self.subTest(way=way, limits=limits):
            before = repr(way)
            self.told(entry_caps(way, **limits), due)
            self.told(repr(way), before)

    def test_nothing(self):
        self.caps([])

    def test_hops_and_lines(self):
        for pace in range(10):
            self.caps([0, pace, 0], ("hop", pace, (3, 4)), ("line", pace, EAST, 7), ("hop", 9 - pace, (0, 0)))

    def test_arcs_about_the_bound(self):
        for gear in range(10):
            # By the pull 2: gear times gear is just 2 times the radius.
            bound = Fraction(gear * gear, 2)
            if gear:
                self.caps([gear], round_of(9, bound))
                self.caps([gear - 1], round_of(9, bound - TINY))
            self.caps([gear], round_of(9, bound + TINY))
            self.caps([gear], round_of(9, Fraction((gear + 1) ** 2, 2) - TINY))
        self.caps([9], round_of(9, GREATER))
        self.caps([0], round_of(9, Fraction(1, GREATER)))

    def test_arcs_at_most_their_pace(self):
        for pace in range(10):
            self.caps([pace], round_of(pace, 50))
            self.caps([min(pace, 4)], round_of(pace, 8), pull=(2, 1))
            self.caps([min(pace, 4)], ("arc", pace, (0, 8), (-1, 0), -1))

    def test_pull_by_name(self):
        for pull, radius, due in [((1, 2), 8, 2), ((9, 8), 8, 3), ((8, 9), 8, 2), ((81, 1), 1, 9), ((80, 1), 1, 8),
                                  ((1, GREATER), 1, 0), ((1, GREATER), GREATER, 1), ((GREATER, 1), "1/3", 9)]:
            self.caps([due], round_of(9, Fraction(radius)), pull=pull)

    def test_each_list_is_new(self):
        way = way_along(("line", 3, EAST, 5))
        entry_caps(way).clear()
        joint_caps(way).clear()
        self.told((entry_caps(way), joint_caps(way)), ([3], [0, 0]))


class JointCapsTest(Telling):
    def caps(self, due, *parts, **limits):
        way = way_along(*parts)
        with self.subTest(way=way, limits=limits):
            before = repr(way)
            self.told(joint_caps(way, **limits), due)
            self.told(repr(way), before)

    def between(self, due, one, other, **limits):
        """The cap of the one joint between two steps."""
        self.caps([0, due, 0], one, other, **limits)

    def test_nothing(self):
        self.caps([0])
        self.caps([0], pull=(5, 1), jolt=(3, 1))

    def test_the_first_and_the_last(self):
        self.caps([0, 0], ("line", 9, EAST, 5))
        self.caps([0, 0], ("hop", 9, (1, 1)))
        self.caps([0, 0], round_of(9, 50))

    def test_the_less_of_both(self):
        for pace in range(10):
            for other in range(10):
                self.between(min(pace, other), ("line", pace, EAST, 3), ("line", other, EAST, 4))
        self.between(3, ("line", 9, NORTH, 3), round_of(9, 5))
        self.between(3, round_of(9, 5), ("line", 9, NORTH, 3))
        self.between(2, round_of(9, 2), round_of(9, 50))
        self.between(4, round_of(9, 5), ("line", 5, NORTH, 3), pull=(4, 1))

    def test_hops(self):
        self.caps([0, 0, 0, 0], ("line", 9, EAST, 3), ("hop", 9, (3, 0)), ("line", 9, EAST, 3))
        self.caps([0, 0, 0], ("hop", 9, (3, 0)), ("hop", 9, (3, 3)))

    def test_headings_alike(self):
        self.between(9, ("line", 9, ("3/5", "4/5"), 3), ("line", 9, ("3/5", "4/5"), 4), jolt=(1, GREATER))
        self.between(9, ("line", 9, NORTH, 3), round_of(9, 50), jolt=(1, GREATER))
        self.between(9, round_of(9, 50), round_of(9, 50), jolt=(1, GREATER))

    def test_headings_unlike(self):
        # Square: g g 2 is at most jolt times jolt.
        for jolt, due in [("1", 0), ("7/5", 0), ("3/2", 1), ("2", 1), ("14/5", 1), ("3", 2), ("9", 6), ("12", 8),
                          ("13", 9),
                          ("100", 9)]:
            for one, other in [(EAST, NORTH), (EAST, SOUTH), (NORTH, EAST), (WEST, NORTH)]:
                self.between(due, ("line", 9, one, 3), ("line", 9, other, 3), jolt=number(jolt))

    def test_straight_back(self):
        for gear in range(1, 10):
            # g g 4 is just jolt times jolt.
            for more, due in [(0, gear), (-TINY, gear - 1), (TINY, gear)]:
                self.between(due, ("line", 9, EAST, 3), ("line", 9, WEST, 3), jolt=number(2 * gear + more))

    def test_about_the_bound(self):
        # Of (1, 0) and (7/25, 24/25) 2 - 2 (u v) is 36/25: g times 6/5 is at most the jolt.
        for gear in range(1, 10):
            for more, due in [(0, gear), (-TINY, gear - 1), (TINY, gear)]:
                jolt = number(gear * Fraction(6, 5) + more)
                self.between(due, ("line", 9, EAST, 3), ("line", 9, ("7/25", "24/25"), 3), jolt=jolt)
                self.between(due, ("line", 9, EAST, 3), ("line", 9, ("7/25", "-24/25"), 3), jolt=jolt)
                self.between(due, ("line", 9, ("7/25", "24/25"), 3), ("line", 9, EAST, 3), jolt=jolt)

    def test_the_default_jolt(self):
        # Nearly alike: of the heading of 1 and 9, 2 - 2 (u v) is 4/82; 4 is the greatest with g g 4/82 at most 1.
        self.between(4, ("line", 9, EAST, 3), ("line", 9, ("80/82", "18/82"), 3))
        self.between(3, ("line", 3, EAST, 3), ("line", 9, ("80/82", "18/82"), 3))
        self.between(0, ("line", 9, EAST, 3), ("line", 9, NORTH, 3))

    def test_arcs_headings_at_their_ends(self):
        # A quarter to the left from (1, 0) round the origin begins northwards and ends westwards.
        quarter = ("arc", 9, (50, 0), NORTH, 1)
        for heading, ahead, behind in [(EAST, 0, 0), (NORTH, 9, 0), (WEST, 0, 9), (SOUTH, 0, 0)]:
            self.between(ahead, ("line", 9, heading, 5), quarter)
            self.between(behind, quarter, ("line", 9, heading, 5))
        right = ("arc", 9, (50, 0), NORTH, -1)
        self.between(9, ("line", 9, SOUTH, 5), right)
        self.between(9, right, ("line", 9, WEST, 5))
        self.between(0, ("line", 9, NORTH, 5), right)

    def test_pull_and_jolt_by_name(self):
        parts = (("line", 9, EAST, 3), round_of(9, 2))
        self.between(0, *parts)
        self.between(2, *parts, jolt=(100, 1))
        self.between(9, *parts, jolt=(100, 1), pull=(100, 1))
        self.between(1, *parts, jolt=(2, 1), pull=(100, 1))


class ManyCapsTest(Telling):
    """By fractions, for the ways of programs."""

    def test_each_is_capped_alike(self):
        chance = random.Random(29)
        seen = {}
        for _ in range(600):
            try:
                way = way_of(road_of(made_up(chance)))
            except MillError:
                continue
            pull, jolt = [Fraction(chance.randrange(1, 90), chance.randrange(1, 9)) for _ in range(2)]
            caps = []
            for step, pace, _ in way:
                cap = 0 if step[0] == "hop" else pace
                if step[0] == "arc":
                    radius = length(minus(fractions(step[1]), fractions(step[3])))
                    cap = max(gear for gear in range(pace + 1) if gear * gear <= pull * radius)
                caps.append(cap)
            joints = [0] * (len(way) + 1)
            for k in range(1, len(way)):
                joints[k] = min(caps[k - 1:k + 1])
                if "hop" not in (way[k - 1][0][0], way[k][0][0]):
                    u, v = [Cut((*way[at][:2], (1, 1), ()), at) for at in (k - 1, k)]
                    rest = 2 - 2 * dot(u.v, v.u)
                    joints[k] = max(gear for gear in range(joints[k] + 1) if gear * gear * rest <= jolt * jolt)
                seen[joints[k]] = True
            self.told(entry_caps(way, pull=number(pull)), caps)
            self.told(joint_caps(way, pull=number(pull), jolt=number(jolt)), joints)
        self.assertEqual(sorted(seen), list(range(10)))


if __name__ == "__main__":
    unittest.main()
