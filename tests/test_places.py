import unittest
from fractions import Fraction

from toolroad.errors import MillError, NoHeading
from toolroad.places import distance, heading_of, heading_to, turned
from telling import GREAT, GREATER, PRIME, Telling, fractions, number, place

SMALL = range(-6, 7)
SOME = [Fraction(-5, 2), Fraction(-1), Fraction(0), Fraction(1, 3), Fraction(2)]


class HeadingOfTest(Telling):
    def test_ordinary_ones(self):
        for p, q, due in [
            (1, 2, ((3, 5), (4, 5))), (2, 1, ((-3, 5), (4, 5))), (-1, 2, ((3, 5), (-4, 5))),
            (1, -2, ((3, 5), (-4, 5))), (-1, -2, ((3, 5), (4, 5))), (2, 4, ((3, 5), (4, 5))),
            (1, 1, ((0, 1), (1, 1))), (-1, 1, ((0, 1), (-1, 1))), (2, 3, ((5, 13), (12, 13))),
            (1, 3, ((4, 5), (3, 5))), (99, -98, ((-197, 19405), (-19404, 19405))),
        ]:
            with self.subTest(p=p, q=q):
                self.told(heading_of(p, q), due)

    def test_one_of_both_0(self):
        for k in (1, -1, 2, -7, 99, GREATER):
            with self.subTest(k):
                self.told(heading_of(0, k), ((1, 1), (0, 1)))
                self.told(heading_of(k, 0), ((-1, 1), (0, 1)))

    def test_as_the_point_tells(self):
        great = [(GREAT, GREATER), (-PRIME, 3), (GREATER, -GREATER)]
        for p, q in [(p, q) for p in SMALL for q in SMALL if p or q] + great:
            with self.subTest(p=p, q=q):
                m = p * p + q * q
                told = heading_of(p, q)
                self.told(told, place(Fraction(q * q - p * p, m), Fraction(2 * p * q, m)))
                x, y = fractions(told)
                self.assertEqual(x * x + y * y, 1)

    def test_both_0(self):
        for _ in range(3):
            with self.assertRaises(MillError) as caught:
                heading_of(0, 0)
            self.assertIs(caught.exception.__class__, NoHeading)
            self.told(heading_of(0, 1), ((1, 1), (0, 1)))


class TurnedTest(Telling):
    def test_ordinary_ones(self):
        for x, y, by, due in [
            (1, 0, place(0, 1), place(0, 1)), (0, 1, place(0, 1), place(-1, 0)), (2, 3, place(1, 0), place(2, 3)),
            (2, 3, place(0, 1), place(-3, 2)), (2, 3, place(0, -1), place(3, -2)), (2, 3, place(-1, 0), place(-2, -3)),
            (5, 10, ((3, 5), (4, 5)), place(-5, 10)), (5, 0, ((3, 5), (4, 5)), place(3, 4)),
            (0, 5, ((3, 5), (4, 5)), place(-4, 3)), (0, 0, ((3, 5), (-4, 5)), place(0, 0)),
        ]:
            with self.subTest(x=x, y=y, by=by):
                self.told(turned(place(x, y), by), due)

    def test_as_the_point_tells(self):
        for p, q in [(1, 2), (3, -2), (-5, 4), (0, 3), (3, 0), (GREAT, PRIME)]:
            c, s = fractions(heading_of(p, q))
            for x, y in [(x, y) for x in SOME for y in SOME] + [(Fraction(GREATER), Fraction(1, GREAT))]:
                with self.subTest(p=p, q=q, x=x, y=y):
                    self.told(turned(place(x, y), heading_of(p, q)), place(x * c - y * s, x * s + y * c))


class DistanceTest(Telling):
    def test_ordinary_ones(self):
        for one, other, due in [
            (place(0, 0), place(3, 4), (5, 1)), (place(1, 1), place(4, 5), (5, 1)), (place(4, 5), place(1, 1), (5, 1)),
            (place(-1, 2), place(-6, -10), (13, 1)), (place(0, 0), place(7, 0), (7, 1)),
            (place(0, 2), place(0, -5), (7, 1)), (place(0, 0), ((3, 10), (2, 5)), (1, 2)),
            (((1, 2), (1, 3)), ((1, 2), (1, 2)), (1, 6)), (place(GREATER, 0), place(0, 0), (GREATER, 1)),
            (place(3 * GREAT, 4 * GREAT), place(0, 0), (5 * GREAT, 1)),
        ]:
            with self.subTest(one=one, other=other):
                self.told(distance(one, other), due)

    def test_one_place_twice(self):
        for one in [place(0, 0), place(3, -4), ((1, 3), (-7, 2)), place(GREATER, -GREAT)]:
            with self.subTest(one):
                self.told(distance(one, one), (0, 1))

    def test_none(self):
        for one, other in [
            (place(0, 0), place(1, 1)), (place(0, 0), place(1, 2)), (place(2, 3), place(0, 0)),
            (place(0, 0), ((1, 2), (1, 2))), (place(0, 0), place(3 * GREAT, 4 * GREAT + 1)),
        ]:
            with self.subTest(one=one, other=other):
                self.told(distance(one, other), None)


class HeadingToTest(Telling):
    def test_ordinary_ones(self):
        for one, other, due in [
            (place(0, 0), place(3, 4), ((3, 5), (4, 5))), (place(3, 4), place(0, 0), ((-3, 5), (-4, 5))),
            (place(1, 1), place(4, 5), ((3, 5), (4, 5))), (place(4, 1), place(1, 5), ((-3, 5), (4, 5))),
            (place(2, 2), place(9, 2), place(1, 0)), (place(2, 2), place(-9, 2), place(-1, 0)),
            (place(2, 2), place(2, 3), place(0, 1)), (place(2, 2), place(2, -3), place(0, -1)),
            (place(0, 0), ((3, 10), (-2, 5)), ((3, 5), (-4, 5))),
            (((1, 2), (1, 3)), ((1, 2), (1, 2)), place(0, 1)),
            (place(GREATER, 0), place(0, 0), place(-1, 0)),
        ]:
            with self.subTest(one=one, other=other):
                self.told(heading_to(one, other), due)

    def test_it_leads_there(self):
        for p, q in [(1, 2), (3, -2), (-5, 4), (7, 1), (GREAT, PRIME)]:
            for length in (Fraction(1), Fraction(5, 7), Fraction(GREATER)):
                with self.subTest(p=p, q=q, length=length):
                    heading = heading_of(p, q)
                    x, y = fractions(heading)
                    end = place(x * length + Fraction(2, 3), y * length - 4)
                    self.told(distance(place(Fraction(2, 3), -4), end), number(length))
                    self.told(heading_to(place(Fraction(2, 3), -4), end), heading)

    def test_one_place_twice(self):
        for one in [place(0, 0), place(3, -4), ((1, 3), (-7, 2)), place(GREATER, -GREAT)]:
            with self.subTest(one):
                self.assertRaises(NoHeading, heading_to, one, one)

    def test_where_the_distance_is_none(self):
        for one, other in [(place(0, 0), place(1, 1)), (place(2, 3), place(0, 0)), (place(0, 0), ((1, 2), (1, 2)))]:
            with self.subTest(one=one, other=other):
                self.assertRaises(NoHeading, heading_to, one, other)

    def test_behind_a_refusal_all_is_alike(self):
        one, other = place(0, 0), place(3, 4)
        for _ in range(3):
            self.told(heading_to(one, other), ((3, 5), (4, 5)))
            self.assertRaises(NoHeading, heading_to, one, one)
            self.assertRaises(NoHeading, heading_to, one, place(1, 1))
            self.told(distance(one, place(1, 1)), None)


if __name__ == "__main__":
    unittest.main()
