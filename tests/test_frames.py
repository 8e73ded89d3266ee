import copy
import unittest
from fractions import Fraction

from toolroad.frames import is_about, led_direction, led_from, led_place
from telling import GREAT, GREATER, PRIME, Telling, fractions, place

SPOTS = [place(0, 0), place(1, 0), place(2, 3), place(-4, 1), place(Fraction(1, 2), Fraction(-5, 3)),
         place(GREATER, Fraction(PRIME, GREAT))]
SHIFTS = [("shift", (0, 1), (0, 1)), ("shift", (5, 1), (-7, 1)), ("shift", (-1, 3), (9999, 998))]
TURNS = [("turn", 1, 1), ("turn", 1, 2), ("turn", 0, 3), ("turn", -2, 0), ("turn", 99, -98), ("turn", -3, 1)]
FLIP = ("flip",)
ALL = SHIFTS + TURNS + [FLIP]
SEVERAL = [
    (SHIFTS[1], TURNS[1]), (TURNS[1], SHIFTS[1]), (FLIP, TURNS[0]), (TURNS[0], FLIP), (SHIFTS[2], FLIP),
    (FLIP, SHIFTS[2]), (FLIP, FLIP), (SHIFTS[1], TURNS[4], FLIP, SHIFTS[2], TURNS[1]), (FLIP, TURNS[5], FLIP, FLIP),
    tuple(ALL[:8]), (TURNS[4],) * 8, (SHIFTS[2],) * 8, (FLIP,) * 8, (FLIP,) * 7, (TURNS[1], FLIP) * 4,
    (SHIFTS[1], TURNS[2], TURNS[3], FLIP, TURNS[5], SHIFTS[2], FLIP, FLIP),
]


def by_one(frame, x, y, shifted):
    """Where one frame leads x and y, as the point tells it, in fractions."""
    if frame[0] == "shift":
        return (x + Fraction(*frame[1]), y + Fraction(*frame[2])) if shifted else (x, y)
    if frame[0] == "flip":
        return x, -y
    p, q = frame[1:]
    c, s = Fraction(q * q - p * p, p * p + q * q), Fraction(2 * p * q, p * p + q * q)
    return x * c - y * s, x * s + y * c


def by_all(frames, spot, shifted):
    x, y = fractions(spot)
    for frame in frames[::-1]:
        x, y = by_one(frame, x, y, shifted)
    return place(x, y)


class FramesTest(Telling):
    def test_none(self):
        for spot in SPOTS:
            self.told(led_place((), spot), spot)
            self.told(led_direction((), spot), spot)
            self.told(led_from((), spot), spot)
        self.told(is_about(()), False)

    def test_one(self):
        for frame, due, direction in [
            (("shift", (5, 1), (-7, 1)), place(7, -4), place(2, 3)),
            (("shift", (-1, 3), (1, 2)), place(Fraction(5, 3), Fraction(7, 2)), place(2, 3)),
            (("turn", 1, 1), place(-3, 2), place(-3, 2)), (("turn", -1, 1), place(3, -2), place(3, -2)),
            (("turn", 0, 9), place(2, 3), place(2, 3)), (("turn", 9, 0), place(-2, -3), place(-2, -3)),
            (("turn", 1, 2), place(Fraction(-6, 5), Fraction(17, 5)), place(Fraction(-6, 5), Fraction(17, 5))),
            (("flip",), place(2, -3), place(2, -3)),
        ]:
            with self.subTest(frame):
                self.told(led_place((frame,), place(2, 3)), due)
                self.told(led_direction((frame,), place(2, 3)), direction)
                self.told(led_from((frame,), due), place(2, 3))

    def test_the_last_one_first(self):
        shift, turn = ("shift", (10, 1), (0, 1)), ("turn", 1, 1)
        for frames, due, direction in [
            ((shift, turn), place(7, 2), place(-3, 2)), ((turn, shift), place(-3, 12), place(-3, 2)),
            ((FLIP, turn), place(-3, -2), place(-3, -2)), ((turn, FLIP), place(3, 2), place(3, 2)),
            ((shift, FLIP, turn), place(7, -2), place(-3, -2)), ((turn, FLIP, shift), place(3, 12), place(3, 2)),
            ((FLIP, shift, turn), place(7, -2), place(-3, -2)), ((turn, turn), place(-2, -3), place(-2, -3)),
        ]:
            with self.subTest(frames):
                self.told(led_place(frames, place(2, 3)), due)
                self.told(led_direction(frames, place(2, 3)), direction)
                self.told(led_from(frames, due), place(2, 3))

    def test_as_the_point_tells(self):
        pairs = [(one, other) for one in ALL for other in ALL]
        for frames in [(frame,) for frame in ALL] + pairs + SEVERAL:
            for spot in SPOTS:
                with self.subTest(frames=frames, spot=spot):
                    self.told(led_place(frames, spot), by_all(frames, spot, True))
                    self.told(led_direction(frames, spot), by_all(frames, spot, False))

    def test_led_from_what_led_place_tells(self):
        for frames in [(frame,) for frame in ALL] + SEVERAL:
            for spot in SPOTS:
                with self.subTest(frames=frames, spot=spot):
                    self.told(led_from(frames, led_place(frames, spot)), spot)
                    self.told(led_place(frames, led_from(frames, spot)), spot)

    def test_shifts_are_left_out_for_directions(self):
        for frames in SEVERAL + [(shift,) for shift in SHIFTS]:
            for spot in SPOTS:
                with self.subTest(frames=frames, spot=spot):
                    without = tuple([frame for frame in frames if frame[0] != "shift"])
                    self.told(led_direction(frames, spot), led_place(without, spot))
                    self.told(led_direction(frames, place(0, 0)), place(0, 0))

    def test_is_about(self):
        for frames, due in [
            ((FLIP,), True), ((FLIP, FLIP), False), ((FLIP,) * 7, True), ((FLIP,) * 8, False), (SHIFTS[1:2], False),
            ((SHIFTS[0],), False), ((TURNS[3],), False), ((TURNS[0], FLIP), True), ((FLIP, SHIFTS[1], FLIP), False),
            ((FLIP, TURNS[1], FLIP, SHIFTS[1], FLIP), True), ((TURNS[1],) * 3, False),
        ]:
            with self.subTest(frames):
                self.told(is_about(tuple(frames)), due)

    def test_what_is_handed_in_stays_as_it_is(self):
        frames, spot = SEVERAL[7], place(2, 3)
        kept = copy.deepcopy((frames, spot))
        for _ in range(2):
            told = led_place(frames, spot)
            self.told(led_place(frames, spot), told)
            self.told(led_from(frames, told), spot)
            led_direction(frames, spot)
            is_about(frames)
        self.told((frames, spot), kept)


if __name__ == "__main__":
    unittest.main()
