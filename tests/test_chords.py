import math
import random
import unittest
from fractions import Fraction

from toolroad.chords import are_chords, chords
from toolroad.places import heading_of
from toolroad.roads import road_of
from toolroad.steps import is_step, lies_on
from telling import GREAT, GREATER, OTHER_THINGS, Telling, fractions, number, place

TINY = Fraction(1, 10 ** 30)


def arc(begin, end, centre=(0, 0), way=1):
    made = ("arc", place(*begin), place(*end), place(*centre), way)
    assert is_step(made)
    return made


def spot(p, q, radius=1, x=0, y=0):
    """The place round a centre by the heading of p and q."""
    c, s = fractions(heading_of(p, q))
    return (x + radius * c, y + radius * s)


def mirrored(thing):
    """The same with the other sign of each y: arcs go the other way."""
    if isinstance(thing, tuple) and thing and thing[0] == "arc":
        return ("arc", *[mirrored(part) for part in thing[1:4]], -thing[4])
    return (thing[0], (-thing[1][0], thing[1][1]))


# To the left: an eighth or so, a quarter, a half, three quarters, all but a little, a little, once round.
ARCS = [
    arc((5, 0), (4, 3)), arc((5, 0), (0, 5)), arc((5, 0), (-5, 0)), arc((5, 0), (0, -5)), arc((5, 0), (4, -3)),
    arc((3, 4), spot(98, 99, 5)), arc((0, 5), spot(98, 99, 5)),
    arc((5, 0), (5, 0)), arc((-3, 4), (-3, 4)), arc((-3, 4), (5, 0)), arc((4, -3), (4, 3)),
    arc((8, 9), (1, 8), (5, 5)),
    arc((Fraction(7, 3), 1), (2, Fraction(4, 3)), (2, 1)),
    arc(spot(1, 97, Fraction(1, 999), 7, -8), spot(97, 1, Fraction(1, 999), 7, -8), (7, -8)),
]


def angle(made, one, other):
    """By floats: how far round it is from one place to another one."""
    (x, y), (z, w), (a, b) = [tuple(map(float, fractions(part))) for part in (one, other, made[3])]
    return made[4] * (math.atan2(w - b, z - a) - math.atan2(y - b, x - a)) % (2 * math.pi)


class ChordsTest(Telling):
    def look_at(self, made, within):
        with self.subTest(arc=made, within=within):
            told = chords(made, within=number(within))
            self.assertIs(told.__class__, list)
            self.assertTrue(2 <= len(told) <= 500)
            self.assertEqual((told[0], told[-1]), (made[1], made[2]))
            centre, radius = fractions(made[3]), Fraction(0)
            square = sum((a - b) ** 2 for a, b in zip(fractions(made[1]), centre))
            radius = Fraction(math.isqrt(square.numerator), math.isqrt(square.denominator))
            round_so_far = 0.0
            for one, other in zip(told, told[1:]):
                self.assertTrue(lies_on(made, one))
                step = angle(made, one, other)
                self.assertTrue(0 < step < math.pi - 1e-9)
                round_so_far += step
                middle = [(a + b) / 2 - c for a, b, c in zip(fractions(one), fractions(other), centre)]
                far = middle[0] ** 2 + middle[1] ** 2
                self.assertTrue(within >= radius or far >= (radius - within) ** 2)
            due = angle(made, made[1], made[2]) if made[1] != made[2] else 2 * math.pi
            self.assertAlmostEqual(round_so_far, due, 6)
            self.assertIs(are_chords(made, told, within=number(within)), True)

    def test_each_arc(self):
        for made in ARCS:
            radius = Fraction(1, 999) if made is ARCS[-1] else Fraction(1, 3) if made is ARCS[-2] else 5
            for by in ("1/1000", "1/999", "1/100", "1/10", "1/3", "1/2", "9/10", "1", "11/10", "2", "1000000"):
                self.look_at(made, radius * Fraction(by))
                self.look_at(mirrored(made), radius * Fraction(by))

    def test_at_the_radius(self):
        for made in ARCS[:10]:
            for within in (5 - TINY, 5, 5 + TINY):
                self.look_at(made, within)
                self.look_at(mirrored(made), within)

    def test_great_numbers(self):
        made = ("arc", place(GREAT, 0), place(0, GREAT), place(0, 0), 1)
        for within in (Fraction(GREAT, 1000), Fraction(GREAT, 7), GREAT, GREATER, GREAT - TINY):
            self.look_at(made, within)
            self.look_at(mirrored(made), within)

    def test_arcs_that_were_told(self):
        text = "hop 3 4" + "\nleft 0 0 97 98\nright 0 0 1 0" * 30
        for entry in road_of(text).entries()[1::11]:
            self.look_at(entry[0], Fraction(1, 100))

    def test_many_arcs(self):
        chance = random.Random(3)
        for _ in range(120):
            radius = Fraction(chance.randrange(1, 200), chance.randrange(1, 50))
            x, y = chance.randrange(-9, 9), Fraction(chance.randrange(-9, 9), 7)
            ends = [spot(chance.randrange(-99, 100), chance.randrange(1, 100), radius, x, y) for _ in range(2)]
            made = ("arc", place(*ends[0]), place(*ends[1]), place(x, y), chance.choice([1, -1]))
            self.look_at(made, radius * Fraction(chance.randrange(1, 1500), 1000))

    def test_each_list_is_the_askers_own(self):
        told = chords(ARCS[0], within=(1, 9))
        due = list(told)
        told.clear()
        self.told(chords(ARCS[0], within=(1, 9)), due)


class AreChordsTest(Telling):
    def say(self, due, made, places, within):
        """What is told of the places, and of their mirror."""
        thing = [place(*one) for one in places]
        with self.subTest(arc=made, places=places, within=within):
            self.assertIs(are_chords(made, thing, within=number(within)), due)
            self.assertIs(are_chords(mirrored(made), [mirrored(one) for one in thing], within=number(within)), due)

    def test_begin_and_end_alone(self):
        self.say(True, arc((5, 0), (4, 3)), [(5, 0), (4, 3)], 1)
        self.say(True, arc((5, 0), (0, 5)), [(5, 0), (0, 5)], 5)
        self.say(True, arc((5, 0), (-4, 3)), [(5, 0), (-4, 3)], 5)

    def test_begin_and_end(self):
        made = arc((5, 0), (0, 5))
        good = [(5, 0), (4, 3), (3, 4), (0, 5)]
        self.say(True, made, good, 1)
        for places in ([], [(5, 0)], [(0, 5)], good[1:], good[:-1], good[1:-1], good[::-1], good + [(-3, 4)],
                       good + good,
                       [(4, -3)] + good, good + [(0, 5)], [(5, 0)] + good, [(0, 5), *good[1:]], [*good[:-1], (5, 0)],
                       [(5, 0), (5, 0)], [(0, 5), (0, 5)], [(0, 0), *good[1:]], [*good[:-1], (0, 0)]):
            self.say(False, made, places, 1)
            self.say(False, made, places, 100)

    def test_all_on_it(self):
        made = arc((5, 0), (0, 5))
        for one in [(4, 4), (0, 0), (3, 3), (4, 3 + TINY), (4 - TINY, 3), (Fraction(8), 6), (-3, 4), (3, -4), (-5, 0),
                    (0, -5)]:
            self.say(False, made, [(5, 0), one, (0, 5)], 9)
        for one in [(4, 3), (3, 4), spot(98, 99, 5), spot(1, 99, 5)]:
            self.say(True, made, [(5, 0), one, (0, 5)], 9)

    def test_each_further_on(self):
        made = arc((5, 0), (-5, 0))
        for places in ([(5, 0), (3, 4), (4, 3), (-5, 0)], [(5, 0), (4, 3), (4, 3), (-5, 0)],
                       [(5, 0), (5, 0), (0, 5), (-5, 0)],
                       [(5, 0), (0, 5), (-5, 0), (-5, 0)], [(5, 0), (0, 5), (3, 4), (-3, 4), (-5, 0)],
                       [(5, 0), (4, 3), (5, 0), (0, 5), (-5, 0)], [(5, 0), (0, 5), (-5, 0), (-4, 3), (-5, 0)]):
            self.say(False, made, places, 9)
        self.say(True, made, [(5, 0), (4, 3), (3, 4), (0, 5), (-3, 4), (-4, 3), (-5, 0)], 9)

    def test_less_than_half_round(self):
        self.say(False, arc((5, 0), (-5, 0)), [(5, 0), (-5, 0)], 9)
        self.say(False, arc((5, 0), (-4, -3)), [(5, 0), (-4, -3)], 9)
        self.say(False, arc((5, 0), (0, -5)), [(5, 0), (0, -5)], 9)
        self.say(True, arc((5, 0), (0, -5)), [(5, 0), (0, 5), (-4, 3), (0, -5)], 9)
        self.say(False, arc((5, 0), (0, -5)), [(5, 0), (0, 5), (0, -5)], 9)
        self.say(False, arc((5, 0), (0, -5)), [(5, 0), (-5, 0), (0, -5)], 9)
        self.say(True, arc((5, 0), (0, -5)), [(5, 0), (-4, 3), (0, -5)], 9)
        self.say(True, arc((5, 0), (-4, 3)), [(5, 0), (-4, 3)], 9)

    def test_once_round(self):
        made = arc((5, 0), (5, 0))
        self.say(True, made, [(5, 0), (-4, 3), (-4, -3), (5, 0)], 9)
        self.say(True, made, [(5, 0), (0, 5), (-5, 0), (0, -5), (5, 0)], 9)
        for places in ([(5, 0)], [], [(5, 0), (5, 0)], [(5, 0), (-5, 0), (5, 0)], [(5, 0), (0, 5), (5, 0)],
                       [(5, 0), (0, -5), (5, 0)],
                       [(5, 0), (0, -5), (-5, 0), (0, 5), (5, 0)], [(5, 0), (0, 5), (0, -5), (5, 0)],
                       [(5, 0), (0, 5), (-5, 0), (5, 0), (0, -5), (5, 0)], [(5, 0), (5, 0), (5, 0)],
                       [(5, 0), (0, 5), (-5, 0), (0, -5)], [(0, 5), (-5, 0), (0, -5), (5, 0)],
                       [(5, 0), (0, 5), (-5, 0), (0, -5), (5, 0), (0, 5), (-5, 0), (0, -5), (5, 0)]):
            self.say(False, made, places, 9)

    def test_the_middles_distance(self):
        # From (3, -4) to (3, 4) the middle is 3 from the centre, by the radius 5.
        made = arc((3, -4), (3, 4))
        for within, due in [(2, True), (2 - TINY, False), (2 + TINY, True), (1, False), (3, True), (5, True),
                            (TINY, False),
                            (5 - TINY, True), (5 + TINY, True), (GREATER, True)]:
            self.say(due, made, [(3, -4), (3, 4)], within)
        self.say(True, made, [(3, -4), (5, 0), (3, 4)], 1)
        # From (5, 0) to (0, 5) its square is 25/2: no number's distance.
        made = arc((5, 0), (0, 5))
        for within, due in [("1464466", False), ("1464467", True)]:
            self.say(due, made, [(5, 0), (0, 5)], Fraction(int(within), 10 ** 6))

    def test_one_chord_too_wide(self):
        made = arc((5, 0), (-5, 0))
        good = [(5, 0), spot(1, 9, 5), (4, 3), (3, 4), (0, 5), (-3, 4), (-4, 3), (-5, 0)]
        self.say(True, made, good, Fraction(3, 10))
        for at in range(1, len(good) - 1):
            self.say(at == 1, made, good[:at] + good[at + 1:], Fraction(3, 10))

    def test_as_wide_as_the_radius(self):
        # A chord that goes nearly half round: its middle is near the centre.
        end = spot(1000, 1, 5)
        made = arc((5, 0), end)
        half = arc((5, 0), (-5, 0))
        self.say(True, made, [(5, 0), end], Fraction(4999, 1000))
        self.say(False, made, [(5, 0), end], Fraction(499, 100))
        for within in (5, 6, GREATER):
            self.say(True, made, [(5, 0), end], within)
            self.say(False, half, [(5, 0), (-5, 0)], within)

    def test_however_many(self):
        made = arc((5, 0), (0, 5))
        many = [(5, 0)] + [spot(k, 650, 5) for k in range(1, 650)] + [(0, 5)]
        self.say(True, made, many, Fraction(1, 10 ** 5))
        self.say(False, made, many, Fraction(1, 10 ** 9))
        self.say(False, made, many[:300] + [many[299]] + many[300:], 1)
        self.say(False, made, many[:300] + [many[301], many[300]] + many[302:], 1)

    def test_any_thing(self):
        made = ARCS[0]
        begin, end = made[1], made[2]
        for thing in [*OTHER_THINGS, (begin, end), begin, [begin, None], [None, end], [begin, [], end],
                      [begin, True, end],
                      [begin, "", end], [[begin, end]], ((begin, end),), [begin, end, None], [list(begin), end],
                      [begin, list(end)], [begin, ((5, 1),), end], [begin, ((5, 1), 0), end], [((5, 1), (0, 2)), end],
                      [((5, 1), (0, -1)), end], [((5, True), (0, 1)), end], [((10, 2), (0, 1)), end],
                      [((5, 1), (False, 1)), end], [begin, ((5, 0), (0, 1)), end], made, [made], "places",
                      [begin, ((4, 1), (3, 1), (0, 1))], [begin, (4, 3)], {}, [begin, ["4", "3"], end]]:
            for within in ((1, 1), (100, 1)):
                with self.subTest(str(thing)[:80]):
                    self.assertIs(are_chords(made, thing, within=within), False)

    def test_nothing_is_changed(self):
        made = ARCS[1]
        thing = chords(made, within=(1, 7))
        due = repr((made, thing))
        are_chords(made, thing, within=(1, 7))
        are_chords(made, thing[::-1], within=(1, 7))
        self.told(repr((made, thing)), due)

    def test_told_lists_put_otherwise(self):
        chance = random.Random(23)
        for _ in range(60):
            made = chance.choice(ARCS[:10])
            within = number(Fraction(chance.randrange(1, 60), 20))
            thing = chords(made, within=within)
            self.assertIs(are_chords(made, thing, within=within), True)
            self.assertIs(are_chords(made, thing[::-1], within=within), False)
            self.assertIs(are_chords(made, tuple(thing), within=within), False)
            self.assertIs(are_chords(made, thing[1:], within=within), False)
            self.assertIs(are_chords(made, thing[:-1], within=within), False)
            at = chance.randrange(len(thing))
            self.assertIs(are_chords(made, thing[:at] + [thing[at]] + thing[at:], within=within), False)
            x, y = thing[at]
            self.assertIs(are_chords(made, thing[:at] + [(y, x, y)] + thing[at + 1:], within=within), False)
            self.assertIs(are_chords(made, thing[:at] + [((x[0] + 2 * x[1], x[1]), y)] + thing[at + 1:], within=within),
                          False)


if __name__ == "__main__":
    unittest.main()
