import copy
import unittest
from fractions import Fraction

from toolroad.amounts import is_below, is_number, minus, number_text, over, plus, ratio, root, times, whole
from toolroad.errors import MillError, OverNought
from telling import GREAT, GREATER, OTHER_PRIME, PRIME, Telling, nested, number

NUMBERS = sorted({Fraction(top, bottom) for top in range(-7, 8) for bottom in range(1, 7)})
GREAT_NUMBERS = [
    Fraction(GREAT, GREATER), Fraction(-GREATER, GREAT), Fraction(GREATER), Fraction(-1, GREATER),
    Fraction(PRIME, OTHER_PRIME), Fraction(1 - GREAT, 2),
]


def pairs():
    small = [(u, v) for u in NUMBERS for v in NUMBERS]
    return small + [(u, v) for u in GREAT_NUMBERS for v in GREAT_NUMBERS + [Fraction(0), Fraction(-2, 3)]]


class IsNumberTest(Telling):
    def test_numbers(self):
        for thing in [
            (0, 1), (1, 1), (-1, 1), (7, 1), (1, 2), (-1, 2), (3, 2), (-3, 2), (8, 9), (-9, 8),
            (GREATER, 1), (-GREATER, 1), (1, GREATER), (-1, GREATER), (GREAT, GREAT - 1),
            (PRIME, OTHER_PRIME), (-OTHER_PRIME, PRIME), (3 ** 80, 2 ** 130),
        ]:
            with self.subTest(thing):
                self.told(is_number(thing), True)

    def test_not_in_lowest_terms(self):
        for thing in [
            (0, 2), (0, 3), (0, GREATER), (2, 2), (-2, 2), (2, 4), (-2, 4), (6, 4), (4, 2), (-6, 9), (35, 49),
            (2 * PRIME, 3 * PRIME), (-PRIME, PRIME), (PRIME, PRIME * 2), (GREATER, 9),
        ]:
            with self.subTest(thing):
                self.told(is_number(thing), False)

    def test_bottom_of_0_or_below(self):
        for thing in [(1, 0), (-1, 0), (0, 0), (5, 0), (0, -1), (1, -1), (-1, -1), (3, -2), (-3, -2), (1, -GREATER)]:
            with self.subTest(thing):
                self.told(is_number(thing), False)

    def test_as_many_as_two(self):
        for thing in [(), (1,), (0,), (1, 2, 3), (1, 1, 1), (1, 2, None), (1, 1) * 2, (1,) * 5000]:
            with self.subTest(str(thing)[:40]):
                self.told(is_number(thing), False)

    def test_truths_are_no_whole_numbers(self):
        for thing in [(True, 1), (False, 1), (1, True), (0, True), (2, True), (True, True), (False, True), (True, 2),
                      (1, False), True, False]:
            with self.subTest(thing):
                self.told(is_number(thing), False)

    def test_other_kinds(self):
        for thing in [
            None, 0, 1, -1, GREATER, "", "1", "12", "1/2", "ab", [], [1], [1, 2], [0, 1], [1, 1, 1], [(1, 2)],
            ("1", "2"), ("1", 2), (1, "2"), ("", ""), (None, 1), (1, None), (None, None),
            ([1], 2), (1, [2]), ([], []), ((1,), 1), (1, (1,)), ((1, 1), 1), (1, (1, 1)), ((1, 2), (1, 2)),
            ((0, 1), (0, 1)), ((1, 2),), ((), ()), nested((1, 2), 7), [nested(1, 6), 2], "9" * 4000, [1, 2] * 2000,
        ]:
            with self.subTest(str(thing)[:40]):
                self.told(is_number(thing), False)

    def test_what_is_handed_in_stays_as_it_is(self):
        thing = [1, [2, (3, [4])], "5"]
        kept = copy.deepcopy(thing)
        self.told(is_number(thing), False)
        self.told(is_number((thing, 1)), False)
        self.told(thing, kept)

    def test_alike_each_time(self):
        for _ in range(3):
            self.told(is_number((2, 3)), True)
            self.told(is_number((2, 4)), False)
            self.told(is_number((True, 3)), False)


class RatioTest(Telling):
    def test_small_ones(self):
        for top in range(-24, 25):
            for bottom in list(range(-24, 0)) + list(range(1, 25)):
                with self.subTest(top=top, bottom=bottom):
                    told = ratio(top, bottom)
                    self.told(told, number(Fraction(top, bottom)))
                    self.told(is_number(told), True)

    def test_signs(self):
        self.told(ratio(6, 4), (3, 2))
        self.told(ratio(-6, 4), (-3, 2))
        self.told(ratio(6, -4), (-3, 2))
        self.told(ratio(-6, -4), (3, 2))
        self.told(ratio(0, -7), (0, 1))
        self.told(ratio(0, 7), (0, 1))

    def test_default_bottom(self):
        self.told(ratio(5), (5, 1))
        self.told(ratio(-5), (-5, 1))
        self.told(ratio(0), (0, 1))
        self.told(ratio(GREATER), (GREATER, 1))

    def test_bottom_by_its_name(self):
        self.told(ratio(10, bottom=4), (5, 2))
        self.told(ratio(10, bottom=-5), (-2, 1))
        self.told(ratio(10, bottom=1), (10, 1))
        self.assertRaises(OverNought, ratio, 10, bottom=0)

    def test_great_ones(self):
        self.told(ratio(2 * PRIME, 3 * PRIME), (2, 3))
        self.told(ratio(PRIME, -OTHER_PRIME), (-PRIME, OTHER_PRIME))
        self.told(ratio(GREATER, 9), (GREATER // 9, 1))
        self.told(ratio(9, GREATER), (1, GREATER // 9))
        self.told(ratio(-GREAT, GREATER), number(Fraction(-GREAT, GREATER)))

    def test_bottom_0(self):
        for top in (0, 1, -1, 5, GREATER, -GREATER):
            with self.subTest(top):
                self.assertRaises(OverNought, ratio, top, 0)

    def test_over_nought_stands_under_zero_division_error(self):
        with self.assertRaises(ZeroDivisionError) as caught:
            ratio(1, 0)
        self.assertIs(caught.exception.__class__, OverNought)
        self.assertFalse(issubclass(OverNought, (ValueError, MillError)))

    def test_a_refusal_changes_nothing(self):
        for _ in range(3):
            self.told(ratio(6, 4), (3, 2))
            self.assertRaises(OverNought, ratio, 6, 0)
            self.told(ratio(6), (6, 1))


class ReckoningTest(Telling):
    def test_against_fractions(self):
        for u, v in pairs():
            with self.subTest(u=u, v=v):
                self.told(plus(number(u), number(v)), number(u + v))
                self.told(minus(number(u), number(v)), number(u - v))
                self.told(times(number(u), number(v)), number(u * v))
                if v != 0:
                    self.told(over(number(u), number(v)), number(u / v))

    def test_ordinary_ones(self):
        self.told(plus((1, 2), (1, 3)), (5, 6))
        self.told(plus((1, 2), (1, 2)), (1, 1))
        self.told(plus((1, 2), (-1, 2)), (0, 1))
        self.told(minus((1, 2), (1, 3)), (1, 6))
        self.told(minus((1, 3), (1, 2)), (-1, 6))
        self.told(minus((5, 7), (5, 7)), (0, 1))
        self.told(times((2, 3), (3, 4)), (1, 2))
        self.told(times((-2, 3), (3, 2)), (-1, 1))
        self.told(times((0, 1), (-3, 4)), (0, 1))
        self.told(over((2, 3), (4, 3)), (1, 2))
        self.told(over((2, 3), (-4, 3)), (-1, 2))
        self.told(over((-2, 3), (-1, 3)), (2, 1))
        self.told(over((0, 1), (-5, 3)), (0, 1))

    def test_over_0(self):
        for u in [(0, 1), (1, 1), (-1, 2), (GREATER, GREAT)]:
            with self.subTest(u):
                self.assertRaises(OverNought, over, u, (0, 1))

    def test_behind_a_refusal_all_is_alike(self):
        for _ in range(3):
            self.told(over((1, 2), (-3, 4)), (-2, 3))
            self.assertRaises(OverNought, over, (1, 2), (0, 1))
        self.told(plus((1, 2), (-3, 4)), (-1, 4))

    def test_told_numbers_of_hundreds_of_figures(self):
        much = (1, 1)
        due = Fraction(1)
        for step in range(20):
            much = plus(times(much, (GREATER, GREAT + step)), (1, 3))
            due = due * Fraction(GREATER, GREAT + step) + Fraction(1, 3)
        self.told(much, number(due))
        self.told(minus(much, much), (0, 1))
        self.told(over(much, much), (1, 1))
        self.told(is_number(much), True)


class OrderTest(Telling):
    def test_is_below(self):
        for u, v in pairs():
            with self.subTest(u=u, v=v):
                self.told(is_below(number(u), number(v)), u < v)

    def test_is_below_where_little_is_between(self):
        self.told(is_below((GREAT, GREATER), (GREAT + 1, GREATER + 1)), True)
        self.told(is_below((GREAT + 1, GREATER + 1), (GREAT, GREATER)), False)
        self.told(is_below((-1, 2), (-1, 3)), True)
        self.told(is_below((-1, 3), (-1, 2)), False)
        self.told(is_below((1, 3), (1, 3)), False)

    def test_whole(self):
        for u, due in [
            ((0, 1), 0), ((7, 1), 7), ((-7, 1), -7), ((1, 2), 0), ((7, 2), 3), ((8, 3), 2), ((9, 10), 0),
            ((-1, 2), -1), ((-7, 2), -4), ((-8, 3), -3), ((-1, GREATER), -1), ((1, GREATER), 0),
            ((GREATER, 2), GREATER // 2), ((-GREATER, 2), -(GREATER // 2) - 1), ((GREATER, 1), GREATER),
        ]:
            with self.subTest(u):
                self.told(whole(u), due)

    def test_whole_is_the_greatest_not_above(self):
        for u in NUMBERS + GREAT_NUMBERS:
            with self.subTest(u):
                told = whole(number(u))
                self.assertIs(told.__class__, int)
                self.assertTrue(told <= u < told + 1)


class RootTest(Telling):
    def test_squares(self):
        for r in NUMBERS + GREAT_NUMBERS:
            with self.subTest(r):
                self.told(root(number(r * r)), number(abs(r)))

    def test_ordinary_ones(self):
        for u, due in [((0, 1), (0, 1)), ((1, 1), (1, 1)), ((4, 1), (2, 1)), ((1, 4), (1, 2)), ((9, 4), (3, 2)),
                       ((144, 25), (12, 5)), ((10 ** 38, 1), (10 ** 19, 1))]:
            with self.subTest(u):
                self.told(root(u), due)

    def test_of_other_numbers(self):
        for u in [(2, 1), (3, 1), (5, 1), (8, 1), (24, 1), (26, 1), (1, 2), (1, 3), (1, 8), (4, 3), (3, 4), (2, 9),
                  (9, 2), (2, 3), (8, 9), (9, 8), (27, 25), (PRIME, 1), (1, PRIME)]:
            with self.subTest(u):
                self.told(root(u), None)

    def test_whether_there_is_one(self):
        squares = {r * r for r in NUMBERS}
        for u in NUMBERS:
            if 0 <= u <= 4 and u.denominator < 5:
                with self.subTest(u):
                    self.assertEqual(root(number(u)) is not None, u in squares)

    def test_of_numbers_below_0(self):
        for u in [(-1, 1), (-4, 1), (-1, 4), (-9, 4), (-2, 1), (-1, 2), (-GREAT * GREAT, 1)]:
            with self.subTest(u):
                self.told(root(u), None)

    def test_of_great_ones(self):
        for r in (GREAT, GREATER, PRIME, GREATER ** 20):
            with self.subTest(len(str(r))):
                self.told(root((r * r, 1)), (r, 1))
                self.told(root((1, r * r)), (1, r))
                self.told(root((r * r - 1, 1)), None)
                self.told(root((r * r + 1, 1)), None)
                self.told(root((1, r * r - 1)), None)
                self.told(root((1, r * r + 1)), None)
                self.told(root((-r * r, 1)), None)


class NumberTextTest(Telling):
    def test_texts(self):
        for u, due in [
            ((0, 1), "0"), ((1, 1), "1"), ((-1, 1), "-1"), ((10, 1), "10"), ((-120, 1), "-120"), ((1, 2), "1/2"),
            ((-1, 2), "-1/2"), ((3, 10), "3/10"), ((-22, 7), "-22/7"), ((1000, 999), "1000/999"),
            ((1, 11), "1/11"), ((1, 10), "1/10"),
            ((10 ** 39, 1), "1" + "0" * 39), ((-1, 10 ** 39), "-1/1" + "0" * 39), ((GREATER, 1), "9" * 40),
            ((10 ** 900, 10 ** 900 - 1), "1" + "0" * 900 + "/" + "9" * 900),
        ]:
            with self.subTest(due[:40]):
                self.told(number_text(u), due)

    def test_of_what_was_told(self):
        self.told(number_text(ratio(-4, 6)), "-2/3")
        self.told(number_text(ratio(4, -2)), "-2")
        self.told(number_text(ratio(0, -2)), "0")


if __name__ == "__main__":
    unittest.main()
