import copy
import unittest
from fractions import Fraction

from toolroad.places import heading_of, heading_to
from toolroad.steps import headings, is_cut, is_step, lies_on
from telling import (
    GREAT, GREATER, OTHER_PRIME, OTHER_THINGS, PRIME, Telling, fractions, nested, number, place,
)

O = place(0, 0)
HOPS = [
    ("hop", O, O), ("hop", O, place(3, 4)), ("hop", O, place(1, 1)), ("hop", ((1, 2), (-1, 3)), ((5, 7), (0, 1))),
    ("hop", place(GREATER, -GREAT), ((PRIME, OTHER_PRIME), (0, 1))),
]
LINES = [
    ("line", O, place(3, 4)), ("line", place(3, 4), O), ("line", O, place(7, 0)), ("line", place(0, -2), place(0, -3)),
    ("line", ((1, 2), (1, 3)), ((1, 2), (1, 2))), ("line", O, ((3, 10), (2, 5))),
    ("line", O, place(3 * GREAT, 4 * GREAT)), ("line", place(GREATER, 0), place(-GREATER, 0)),
    ("line", O, (number(Fraction(1, GREATER)), (0, 1))),
]
ARCS = [
    ("arc", place(5, 0), place(3, 4), O, 1), ("arc", place(5, 0), place(3, 4), O, -1),
    ("arc", place(5, 0), place(-5, 0), O, 1), ("arc", place(5, 0), place(5, 0), O, 1),
    ("arc", place(5, 0), place(5, 0), O, -1), ("arc", place(2, 1), place(1, 2), place(1, 1), -1),
    ("arc", ((1, 2), (0, 1)), ((3, 10), (2, 5)), O, 1),
    ("arc", place(3 * GREAT, 4 * GREAT), place(-5 * GREAT, 0), O, -1),
]
# Twelve places round (0, 0), each to the left of the one ahead.
ROUND = [place(x, y) for x, y in [(5, 0), (4, 3), (3, 4), (0, 5), (-3, 4), (-4, 3),
                                  (-5, 0), (-4, -3), (-3, -4), (0, -5), (3, -4), (4, -3)]]


def moved(spot, scale=1, x=0, y=0):
    px, py = fractions(spot)
    return place(px * scale + x, py * scale + y)


def spoiled(step):
    """The step with one part put otherwise, for each part and each way to do so."""
    for at in range(len(step)):
        for other in [None, True, 0, 2, "", "arcs", [], [step[at]], (step[at],), step[:at]]:
            yield step[:at] + (other,) + step[at + 1:]
        yield step[:at] + step[at + 1:]
        yield step[:at] + (step[at],) + step[at:]


class IsStepTest(Telling):
    def neither(self, thing):
        with self.subTest(repr(thing)[:90]):
            self.told(is_step(thing), False)
            self.told(is_cut(thing), False)

    def test_hops_are_steps_and_no_cuts(self):
        for step in HOPS:
            with self.subTest(step):
                self.told(is_step(step), True)
                self.told(is_cut(step), False)

    def test_lines_and_arcs_are_both(self):
        for step in LINES + ARCS:
            with self.subTest(step):
                self.told(is_step(step), True)
                self.told(is_cut(step), True)

    def test_other_things(self):
        for thing in OTHER_THINGS + [nested(HOPS[0], 1), nested(LINES[0], 2), list(HOPS), tuple(LINES), "hop", "line",
                                     O, (O, O), ("hop",), ("line",), ("arc",), ("hop", O), ("line", O), ("arc", O)]:
            self.neither(thing)

    def test_a_list_for_the_tuple_or_for_a_part(self):
        for step in HOPS[:2] + LINES[:2] + ARCS[:2]:
            self.neither(list(step))
            for at in range(1, 4 if step[0] == "arc" else 3):
                x, y = step[at]
                for listed in ([x, y], (list(x), y), (x, list(y))):
                    self.neither(step[:at] + (listed,) + step[at + 1:])

    def test_a_thing_more_or_less(self):
        for step in HOPS[:2] + LINES[:2] + ARCS[:2]:
            for many in range(len(step)):
                self.neither(step[:many])
            for more in (None, O, 1, -1, step[1], step):
                self.neither(step + (more,))
                self.neither((more,) + step)

    def test_a_place_more_or_less(self):
        for step in HOPS[:2] + LINES[:2]:
            self.neither((step[0], step[1], step[2][:1]))
            self.neither((step[0], step[1], step[2] + ((0, 1),)))
            self.neither((step[0], step[1][:1], step[2]))
        for way in (1, -1):
            self.neither(("arc", place(5, 0), place(3, 4), ((0, 1),), way))
            self.neither(("arc", place(5, 0), place(3, 4), O + ((0, 1),), way))

    def test_other_words(self):
        for word in ("", "Hop", "hop ", "cut", "run", "left", "Line", "lines", "Arc", "arcs", None, 1, True, [],
                     ["hop"], ("hop",), ("line",)):
            self.neither((word, O, place(3, 4)))
            self.neither((word, place(5, 0), place(3, 4), O, 1))
        for word in ("arc", "line", "hop"):
            self.neither((word, place(5, 0), place(3, 4), O))
        self.neither(("arc", O, place(3, 4)))
        for word in ("hop", "line"):
            self.neither((word, place(5, 0), place(3, 4), O, 1))

    def test_parts_put_otherwise(self):
        for step in (HOPS[1], LINES[0], ARCS[0], ARCS[4]):
            for thing in spoiled(step):
                self.neither(thing)

    def test_numbers_not_in_lowest_terms(self):
        for bad in [(6, 2), (0, 2), (0, 0), (3, 0), (3, -1), (-3, -1), (True, 1), (3, True), (3,), (3, 1, 1), [3, 1], 3,
                    (2 * PRIME, PRIME), (None, 1), ("3", 1)]:
            for word in ("hop", "line"):
                self.neither((word, O, (bad, (4, 1))))
                self.neither((word, (bad, (4, 1)), place(9, 9)))
                self.neither((word, O, ((4, 1), bad)))
            for way in (1, -1):
                self.neither(("arc", place(3, 4), (bad, (4, 1)), O, way))
                self.neither(("arc", (bad, (4, 1)), place(3, 4), O, way))
                self.neither(("arc", place(3, 9), place(3, -1), (bad, (4, 1)), way))
                self.neither(("arc", place(4, 8), place(4, -2), ((4, 1), bad), way))

    def test_ways(self):
        for way in (0, 2, -2, True, False, None, "1", "left", (1, 1), (1,), [1], GREATER, -GREATER):
            self.neither(("arc", place(5, 0), place(3, 4), O, way))
            self.neither(("arc", place(5, 0), place(5, 0), O, way))

    def test_lines_to_where_they_begin(self):
        for spot in (O, place(3, 4), ((1, 2), (-2, 3)), place(GREATER, GREAT)):
            self.neither(("line", spot, spot))

    def test_lines_whose_distance_is_no_number(self):
        for begin, end in [(O, place(1, 1)), (place(2, 3), O), (O, ((1, 2), (1, 2))),
                           (O, place(3 * GREAT, 4 * GREAT + 1)), (place(GREATER, 1), O)]:
            self.neither(("line", begin, end))

    def test_arcs_whose_distances_are_unlike(self):
        for begin, end in [(place(5, 0), place(4, 0)), (place(5, 0), place(6, 0)), (place(4, 0), place(5, 0)),
                           (place(5, 0), O), (O, place(5, 0)), (place(5, 0), place(3, 3)), (place(3, 3), place(5, 0)),
                           (place(3 * GREAT, 4 * GREAT), place(3 * GREAT, 4 * GREAT - 1)),
                           (place(5 * GREAT, 0), place(5 * GREAT + 1, 0))]:
            for way in (1, -1):
                self.neither(("arc", begin, end, O, way))
                self.neither(("arc", moved(begin, y=2), moved(end, y=2), place(0, 2), way))

    def test_arcs_whose_distance_is_no_number_above_0(self):
        for way in (1, -1):
            self.neither(("arc", place(1, 1), place(-1, 1), O, way))
            self.neither(("arc", place(1, 1), place(1, 1), O, way))
            self.neither(("arc", place(1, 2), place(2, 1), O, way))
            self.neither(("arc", O, O, O, way))
            self.neither(("arc", place(3, 4), place(3, 4), place(3, 4), way))

    def test_great_numbers_beside_what_they_should_be(self):
        for step in (LINES[6], ARCS[7]):
            for at in (1, 2):
                for x, y in [(1, 0), (-1, 0), (0, 1), (Fraction(1, GREAT), 0)]:
                    self.neither(step[:at] + (moved(step[at], x=x, y=y),) + step[at + 1:])

    def test_what_is_handed_in_stays_as_it_is(self):
        thing = ["line", [O, [1, 2]], (place(3, 4), [])]
        kept = copy.deepcopy(thing)
        for handed in (thing, tuple(thing), ("hop", O, thing)):
            self.told(is_step(handed), False)
            self.told(is_cut(handed), False)
        self.told(thing, kept)

    def test_alike_each_time(self):
        for _ in range(3):
            self.told(is_step(LINES[0]), True)
            self.told(is_step(("line", O, O)), False)
            self.told(is_cut(HOPS[0]), False)
            self.told(is_cut(ARCS[3]), True)


class HeadingsTest(Telling):
    def test_lines(self):
        for begin, end, due in [
            (O, place(3, 4), ((3, 5), (4, 5))), (place(3, 4), O, ((-3, 5), (-4, 5))),
            (place(1, 1), place(4, -3), ((3, 5), (-4, 5))), (place(2, 2), place(-5, 2), place(-1, 0)),
            (O, ((0, 1), (1, 7)), place(0, 1)), (O, place(3 * GREAT, 4 * GREAT), ((3, 5), (4, 5))),
        ]:
            with self.subTest(begin=begin, end=end):
                self.told(headings(("line", begin, end)), (due, due))

    def test_quarters_of_arcs(self):
        right, up, left, down = place(1, 0), place(0, 1), place(-1, 0), place(0, -1)
        for begin, end, way, due in [
            (right, up, 1, (up, left)), (right, up, -1, (down, right)), (up, left, 1, (left, down)),
            (up, right, -1, (right, down)), (right, left, 1, (up, down)), (right, left, -1, (down, up)),
            (left, down, 1, (down, right)), (down, left, -1, (left, up)),
        ]:
            for x, y in [(0, 0), (7, Fraction(-2, 3))]:
                with self.subTest(begin=begin, end=end, way=way, x=x):
                    arc = ("arc", moved(begin, 3, x, y), moved(end, 3, x, y), place(x, y), way)
                    self.told(headings(arc), due)

    def test_arcs_once_round(self):
        for way in (1, -1):
            for spot in ROUND:
                x, y = fractions(spot)
                due = place(-y * way / 5, x * way / 5)
                with self.subTest(spot=spot, way=way):
                    self.told(headings(("arc", spot, spot, O, way)), (due, due))
                    there = moved(spot, Fraction(1, 3), 4, -1)
                    self.told(headings(("arc", there, there, place(4, -1), way)), (due, due))

    def test_arcs_between_any_two_places(self):
        for way in (1, -1):
            for begin in ROUND:
                for end in ROUND:
                    (bx, by), (ex, ey) = fractions(begin), fractions(end)
                    with self.subTest(begin=begin, end=end, way=way):
                        due = (place(-by * way / 5, bx * way / 5), place(-ey * way / 5, ex * way / 5))
                        self.told(headings(("arc", begin, end, O, way)), due)

    def test_great_ones(self):
        self.told(headings(ARCS[7]), (((4, 5), (-3, 5)), place(0, 1)))


class LiesOnLineTest(Telling):
    def on(self, line, spot, due):
        with self.subTest(line=line, spot=spot):
            self.told(lies_on(line, spot), due)

    def test_along_and_beside_it(self):
        for begin, end in [((0, 0), (3, 4)), ((3, 4), (0, 0)), ((1, 1), (-4, 13)), ((2, 5), (9, 5)), ((2, 5), (2, -1)),
                           ((Fraction(1, 2), Fraction(1, 3)), (Fraction(1, 2), Fraction(1, 2)))]:
            line = ("line", place(*begin), place(*end))
            dx, dy = Fraction(end[0]) - begin[0], Fraction(end[1]) - begin[1]
            for part, due in [
                (Fraction(0), True), (Fraction(1), True), (Fraction(1, 2), True), (Fraction(1, 7), True),
                (Fraction(6, 7), True), (1 - Fraction(1, GREATER), True), (Fraction(1, GREATER), True),
                (Fraction(-1, GREATER), False), (Fraction(-1, 2), False), (Fraction(-1), False), (Fraction(-9), False),
                (1 + Fraction(1, GREATER), False), (Fraction(3, 2), False), (Fraction(2), False), (Fraction(9), False),
            ]:
                x, y = begin[0] + part * dx, begin[1] + part * dy
                self.on(line, place(x, y), due)
                for beside in (Fraction(1), Fraction(-1), Fraction(1, GREATER), Fraction(-1, 5)):
                    self.on(line, place(x - beside * dy, y + beside * dx), False)

    def test_places_whose_distances_are_no_numbers(self):
        line = ("line", O, place(4, 0))
        for x, y in [(0, 1), (1, 1), (2, Fraction(1, 3)), (4, -1), (-1, -1), (5, 2)]:
            self.on(line, place(x, y), False)

    def test_great_ones(self):
        line = ("line", O, place(3 * GREAT, 4 * GREAT))
        self.on(line, place(3 * (GREAT - 1), 4 * (GREAT - 1)), True)
        self.on(line, place(3 * (GREAT + 1), 4 * (GREAT + 1)), False)
        self.on(line, place(3 * (GREAT - 1), 4 * (GREAT - 1) - 1), False)


class LiesOnArcTest(Telling):
    def test_places_round_it(self):
        many = len(ROUND)
        for way in (1, -1):
            for first in range(many):
                for last in range(many):
                    arc = ("arc", ROUND[first], ROUND[last], O, way)
                    far = (last - first) * way % many or many
                    due = [(at - first) * way % many <= far for at in range(many)]
                    with self.subTest(first=first, last=last, way=way):
                        self.told([lies_on(arc, spot) for spot in ROUND], due)

    def test_its_ends_and_close_beside_them(self):
        # A small turn of either way, and the four places by it from the two ends.
        little = Fraction(1, 10 ** 9)
        c, s = (1 - little ** 2) / (1 + little ** 2), 2 * little / (1 + little ** 2)
        for way in (1, -1):
            for first, last in [(0, 3), (3, 0), (0, 6), (6, 0), (2, 7), (7, 2), (11, 1), (1, 11)]:
                arc = ("arc", ROUND[first], ROUND[last], O, way)
                for at, due in [(first, way), (last, -way)]:
                    x, y = fractions(ROUND[at])
                    with self.subTest(first=first, last=last, way=way, at=at):
                        self.told(lies_on(arc, ROUND[at]), True)
                        self.told(lies_on(arc, place(x * c - y * s * due, x * s * due + y * c)), True)
                        self.told(lies_on(arc, place(x * c + y * s * due, y * c - x * s * due)), False)

    def test_nearer_and_farther_than_the_radius(self):
        for way in (1, -1):
            for end in (ROUND[0], ROUND[4], ROUND[9]):
                arc = ("arc", ROUND[0], end, O, way)
                for spot in ROUND:
                    for scale in (0, Fraction(1, 2), Fraction(999, 1000), 1 + Fraction(1, GREATER), 2, -2):
                        with self.subTest(way=way, end=end, spot=spot, scale=scale):
                            self.told(lies_on(arc, moved(spot, scale)), False)

    def test_about_another_centre(self):
        for way in (1, -1):
            arc = ("arc", moved(ROUND[1], 2, -3, Fraction(1, 2)), moved(ROUND[7], 2, -3, Fraction(1, 2)),
                   place(-3, Fraction(1, 2)), way)
            due = [(at - 1) * way % 12 <= 6 for at in range(12)]
            self.told([lies_on(arc, moved(spot, 2, -3, Fraction(1, 2))) for spot in ROUND], due)
            self.told([lies_on(arc, moved(spot, 2)) for spot in ROUND], [False] * 12)
            self.told(lies_on(arc, place(-3, Fraction(1, 2))), False)

    def test_places_whose_distances_are_no_numbers(self):
        arc = ("arc", place(5, 0), place(5, 0), O, 1)
        for x, y in [(1, 1), (5, 1), (3, 3), (-4, 4), (0, Fraction(1, 3))]:
            with self.subTest(x=x, y=y):
                self.told(lies_on(arc, place(x, y)), False)

    def test_great_ones(self):
        arc = ("arc", place(5 * GREAT, 0), place(-5 * GREAT, 0), O, 1)
        for x, y, due in [(3, 4, True), (-3, 4, True), (3, -4, False), (-3, -4, False), (0, 5, True), (0, -5, False)]:
            with self.subTest(x=x, y=y):
                self.told(lies_on(arc, place(x * GREAT, y * GREAT)), due)
                self.told(lies_on(arc, place(x * GREAT, y * GREAT + 1)), False)

    def test_headings_of_two_whole_numbers(self):
        for p, q in [(1, 2), (3, -2), (-5, 4), (GREAT, PRIME)]:
            spot = heading_of(p, q)
            self.told(lies_on(("arc", place(1, 0), place(1, 0), O, 1), spot), True)
            self.told(heading_to(O, spot), spot)


if __name__ == "__main__":
    unittest.main()
