import random
import unittest
from fractions import Fraction

from toolroad.errors import Gouge, MillError, Unled, Unmet
from toolroad.roads import Road, road_of
from toolroad.steps import is_step
from toolroad.ways import way_of
from telling import Telling, fractions, number, place


def hop(begin, end):
    return ("hop", place(*begin), place(*end))


def line(begin, end):
    return ("line", place(*begin), place(*end))


def arc(begin, end, centre, way):
    return ("arc", place(*begin), place(*end), place(*centre), way)


EAST, NORTH, WEST, SOUTH = "run 0 1", "run 1 1", "run 1 0", "run -1 1"
# To the left, round a square of four; to the right, likewise.
LEFT_SQUARE = [EAST + " 4", NORTH + " 4", WEST + " 4", SOUTH + " 4"]
RIGHT_SQUARE = [NORTH + " 4", EAST + " 4", SOUTH + " 4", WEST + " 4"]


def text_of(side, *rows, begin="hop 0 0"):
    return "\n".join([begin, f"side {side}", "by", *rows])


class WaysTest(Telling):
    def led(self, text, *due):
        """The steps of the way, with the numbers that lead them."""
        with self.subTest(text):
            way = way_of(road_of(text))
            self.told([(step, number) for step, _, number in way], list(due))

    def hinders(self, kind, number, text):
        with self.subTest(text):
            self.refused(kind, {"number": number}, way_of, road_of(text))


class HopsTest(WaysTest):
    def test_nothing(self):
        self.told(way_of(Road([])), [])
        self.told(way_of(road_of("side 1\nby")), [])

    def test_hops_alone(self):
        self.led("hop 1 2", (hop((0, 0), (1, 2)), 0))
        self.led("hop 1 2\nhop 1 2\nhop 0 0", (hop((0, 0), (1, 2)), 0), (hop((1, 2), (1, 2)), 1),
                 (hop((1, 2), (0, 0)), 2))
        self.led("side 3\nhop 1 2\nhop 5 5", (hop((0, 0), (1, 2)), 0), (hop((1, 2), (5, 5)), 1))

    def test_to_where_the_next_led_cut_begins(self):
        self.led("hop 1 1\nside 2\ncut 5 1", (hop((0, 0), (1, 3)), 0), (line((1, 3), (5, 3)), 1))
        self.led("hop 1 1\nside -2\ncut 5 1", (hop((0, 0), (1, -1)), 0), (line((1, -1), (5, -1)), 1))
        self.led("hop 1 1\nhop 1 1\nside 2\ncut 5 1", (hop((0, 0), (1, 1)), 0), (hop((1, 1), (1, 3)), 1),
                 (line((1, 3), (5, 3)), 2))

    def test_from_where_the_tool_is(self):
        self.led("hop 1 1\nside 2\ncut 5 1\nhop 7 7", (hop((0, 0), (1, 3)), 0), (line((1, 3), (5, 3)), 1),
                 (hop((5, 3), (7, 7)), 2))
        self.led("hop 1 1\nside 2\ncut 5 1\nhop . .\nhop . .\nside 1\ncut 5 9", (hop((0, 0), (1, 3)), 0),
                 (line((1, 3), (5, 3)), 1), (hop((5, 3), (5, 1)), 2), (hop((5, 1), (4, 1)), 3),
                 (line((4, 1), (4, 9)), 4))

    def test_to_a_cut_without_a_side(self):
        self.led("hop 1 1\ncut 5 1\nside 1\nhop 5 1\ncut 5 9", (hop((0, 0), (1, 1)), 0), (line((1, 1), (5, 1)), 1),
                 (hop((5, 1), (4, 1)), 2), (line((4, 1), (4, 9)), 3))
        self.led("hop 0 1\nside 1\ncut 5 1\nside 0\nhop 5 5\ncut 5 9", (hop((0, 0), (0, 2)), 0),
                 (line((0, 2), (5, 2)), 1),
                 (hop((5, 2), (5, 5)), 2), (line((5, 5), (5, 9)), 3))

    def test_behind_an_arc_round_a_corner(self):
        self.led(text_of(-1, *LEFT_SQUARE) + "\nhop 9 9",
                 (hop((0, 0), (0, -1)), 0), (line((0, -1), (4, -1)), 1), (arc((4, -1), (5, 0), (4, 0), 1), 1),
                 (line((5, 0), (5, 4)), 2), (arc((5, 4), (4, 5), (4, 4), 1), 2), (line((4, 5), (0, 5)), 3),
                 (arc((0, 5), (-1, 4), (0, 4), 1), 3), (line((-1, 4), (-1, 0)), 4),
                 (arc((-1, 0), (0, -1), (0, 0), 1), 4),
                 (hop((0, -1), (9, 9)), 5))

    def test_paces(self):
        text = "pace 3\nhop 0 0\npace 4\nside -1\nby\nrun 0 1 4\npace 5\nrun 1 1 4\npace 9\nhop 1 1\nside 0\nrun 0 1 1"
        self.told(way_of(road_of(text)), [
            (hop((0, 0), (0, -1)), 3, 0), (line((0, -1), (4, -1)), 4, 1), (arc((4, -1), (5, 0), (4, 0), 1), 4, 1),
            (line((5, 0), (5, 4)), 5, 2), (hop((5, 4), (5, 5)), 9, 3), (line((5, 5), (6, 5)), 9, 4)])


class SideNoughtTest(WaysTest):
    def test_leads_itself(self):
        text = "cut 3 4\ncut 3 10\nby\nleft 0 -1 1 1\nhop 1 1\nright 0 2 1 0\nright 0 2 0 1"
        road = road_of(text)
        self.told([(entry[0], number) for number, entry in enumerate(road.entries())],
                  [(step, number) for step, _, number in way_of(road)])

    def test_first_of_all(self):
        self.led("cut 5 0", (line((0, 0), (5, 0)), 0))
        self.led("by\nleft 0 1 1 0", (arc((0, 0), (0, 2), (0, 1), 1), 0))


class LinesTest(WaysTest):
    def test_straight_on(self):
        self.led(text_of(1, EAST + " 4", EAST + " 2"), (hop((0, 0), (0, 1)), 0), (line((0, 1), (4, 1)), 1),
                 (line((4, 1), (6, 1)), 2))

    def test_within_to_the_left(self):
        self.led(text_of(1, EAST + " 4", NORTH + " 4"), (hop((0, 0), (0, 1)), 0), (line((0, 1), (3, 1)), 1),
                 (line((3, 1), (3, 4)), 2))

    def test_within_to_the_right(self):
        self.led(text_of(-1, NORTH + " 4", EAST + " 4"), (hop((0, 0), (1, 0)), 0), (line((1, 0), (1, 3)), 1),
                 (line((1, 3), (4, 3)), 2))

    def test_without(self):
        self.led(text_of(1, NORTH + " 4", EAST + " 4"), (hop((0, 0), (-1, 0)), 0), (line((-1, 0), (-1, 4)), 1),
                 (arc((-1, 4), (0, 5), (0, 4), -1), 1), (line((0, 5), (4, 5)), 2))
        self.led(text_of("-1/2", EAST + " 4", NORTH + " 4"), (hop((0, 0), (0, "-1/2")), 0),
                 (line((0, "-1/2"), (4, "-1/2")), 1), (arc((4, "-1/2"), ("9/2", 0), (4, 0), 1), 1),
                 (line(("9/2", 0), ("9/2", 4)), 2))

    def test_straight_back(self):
        self.led(text_of(1, EAST + " 4", WEST + " 3"), (hop((0, 0), (0, 1)), 0), (line((0, 1), (4, 1)), 1),
                 (arc((4, 1), (4, -1), (4, 0), -1), 1), (line((4, -1), (1, -1)), 2))
        self.led(text_of(-1, EAST + " 4", WEST + " 3"), (hop((0, 0), (0, -1)), 0), (line((0, -1), (4, -1)), 1),
                 (arc((4, -1), (4, 1), (4, 0), 1), 1), (line((4, 1), (1, 1)), 2))

    def test_there_and_back_is_closed(self):
        self.led(text_of(2, EAST + " 4", WEST + " 4"), (hop((0, 0), (0, 2)), 0), (line((0, 2), (4, 2)), 1),
                 (arc((4, 2), (4, -2), (4, 0), -1), 1), (line((4, -2), (0, -2)), 2),
                 (arc((0, -2), (0, 2), (0, 0), -1), 2))

    def test_other_angles(self):
        # Headings (1, 0) and (3/5, 4/5): the tangent of half the angle is 1/2.
        self.led(text_of(1, EAST + " 4", "run 1 2 5"), (hop((0, 0), (0, 1)), 0), (line((0, 1), ("7/2", 1)), 1),
                 (line(("7/2", 1), ("31/5", "23/5")), 2))
        # Headings (1, 0) and (-3/5, 4/5): the tangent is 2.
        self.led(text_of(1, EAST + " 4", "run 2 1 5"), (hop((0, 0), (0, 1)), 0), (line((0, 1), (2, 1)), 1),
                 (line((2, 1), ("1/5", "17/5")), 2))
        self.led(text_of(-1, EAST + " 4", "run 2 1 5"), (hop((0, 0), (0, -1)), 0), (line((0, -1), (4, -1)), 1),
                 (arc((4, -1), ("24/5", "3/5"), (4, 0), 1), 1), (line(("24/5", "3/5"), ("9/5", "23/5")), 2))

    def test_closed_within(self):
        self.led(text_of(1, *LEFT_SQUARE), (hop((0, 0), (1, 1)), 0), (line((1, 1), (3, 1)), 1),
                 (line((3, 1), (3, 3)), 2),
                 (line((3, 3), (1, 3)), 3), (line((1, 3), (1, 1)), 4))
        self.led(text_of("-1/2", *RIGHT_SQUARE, begin="hop 1 1"), (hop((0, 0), ("3/2", "3/2")), 0),
                 (line(("3/2", "3/2"), ("3/2", "9/2")), 1), (line(("3/2", "9/2"), ("9/2", "9/2")), 2),
                 (line(("9/2", "9/2"), ("9/2", "3/2")), 3), (line(("9/2", "3/2"), ("3/2", "3/2")), 4))

    def test_closed_without(self):
        self.led(text_of(1, *RIGHT_SQUARE), (hop((0, 0), (-1, 0)), 0), (line((-1, 0), (-1, 4)), 1),
                 (arc((-1, 4), (0, 5), (0, 4), -1), 1), (line((0, 5), (4, 5)), 2), (arc((4, 5), (5, 4), (4, 4), -1), 2),
                 (line((5, 4), (5, 0)), 3), (arc((5, 0), (4, -1), (4, 0), -1), 3), (line((4, -1), (0, -1)), 4),
                 (arc((0, -1), (-1, 0), (0, 0), -1), 4))

    def test_not_closed(self):
        self.led(text_of(1, *LEFT_SQUARE[:3], SOUTH + " 7/2"), (hop((0, 0), (0, 1)), 0), (line((0, 1), (3, 1)), 1),
                 (line((3, 1), (3, 3)), 2), (line((3, 3), (1, 3)), 3), (line((1, 3), (1, "1/2")), 4))

    def test_closed_where_a_line_begins_midway(self):
        self.led(text_of(1, EAST + " 2", *LEFT_SQUARE[1:], EAST + " 2"), (hop((0, 0), (0, 1)), 0),
                 (line((0, 1), (1, 1)), 1),
                 (line((1, 1), (1, 3)), 2), (line((1, 3), (-1, 3)), 3), (line((-1, 3), (-1, 1)), 4),
                 (line((-1, 1), (0, 1)), 5))

    def test_within_frames_turned_about(self):
        # The side is as the plane sees it: the same picture, mirrored.
        self.led("flip\n" + text_of(1, *LEFT_SQUARE), (hop((0, 0), (1, -1)), 0), (line((1, -1), (3, -1)), 1),
                 (line((3, -1), (3, -3)), 2), (line((3, -3), (1, -3)), 3), (line((1, -3), (1, -1)), 4))

    def test_two_contours(self):
        self.led(text_of(1, EAST + " 4", "hop 0 0", NORTH + " 4"), (hop((0, 0), (0, 1)), 0), (line((0, 1), (4, 1)), 1),
                 (hop((4, 1), (3, 0)), 2), (line((3, 0), (3, 4)), 3))
        self.led(text_of(1, EAST + " 4", "hop 0 0", "side -1", NORTH + " 4"), (hop((0, 0), (0, 1)), 0),
                 (line((0, 1), (4, 1)), 1), (hop((4, 1), (5, 0)), 2), (line((5, 0), (5, 4)), 3))


class ArcsTest(WaysTest):
    def test_greater_and_less(self):
        self.led(text_of(1, "left -3 0 1 1", begin="hop 3 0"),
                 (hop((0, 0), (2, 0)), 0), (arc((2, 0), (0, 2), (0, 0), 1), 1))
        self.led(text_of(-1, "left -3 0 1 1", begin="hop 3 0"),
                 (hop((0, 0), (4, 0)), 0), (arc((4, 0), (0, 4), (0, 0), 1), 1))
        self.led(text_of(1, "right -3 0 1 1", begin="hop 3 0"),
                 (hop((0, 0), (4, 0)), 0), (arc((4, 0), (0, -4), (0, 0), -1), 1))
        self.led(text_of(-1, "right -3 0 1 1", begin="hop 3 0"),
                 (hop((0, 0), (2, 0)), 0), (arc((2, 0), (0, -2), (0, 0), -1), 1))

    def test_once_round(self):
        for side, way, x in [(1, "left", 2), (-1, "left", 4), (1, "right", 4), (-1, "right", 2), ("5/2", "left", "1/2"),
                             (-7, "left", 10)]:
            self.led(text_of(side, f"{way} -3 0 0 1", begin="hop 3 0"), (hop((0, 0), (x, 0)), 0),
                     (arc((x, 0), (x, 0), (0, 0), 1 if way == "left" else -1), 1))

    def test_straight_on(self):
        self.led(text_of(1, EAST + " 4", "left 0 3 1 1", NORTH + " 4"), (hop((0, 0), (0, 1)), 0),
                 (line((0, 1), (4, 1)), 1),
                 (arc((4, 1), (6, 3), (4, 3), 1), 2), (line((6, 3), (6, 7)), 3))

    def test_without(self):
        # From (0, 0) east, then a quarter to the right about (2, 0), which begins to the left of east: northwards.
        self.led(text_of(-1, EAST + " 4", "right 2 0 1 1"), (hop((0, 0), (0, -1)), 0), (line((0, -1), (4, -1)), 1),
                 (arc((4, -1), (5, 0), (4, 0), 1), 1), (arc((5, 0), (6, 1), (6, 0), -1), 2))
        self.led(text_of(1, "left 0 2 1 1", EAST + " 4"), (hop((0, 0), (0, 1)), 0), (arc((0, 1), (1, 2), (0, 2), 1), 1),
                 (arc((1, 2), (2, 3), (2, 2), -1), 1), (line((2, 3), (6, 3)), 2))

    def test_straight_back(self):
        self.led(text_of(1, EAST + " 4", "right 0 2 1 1"), (hop((0, 0), (0, 1)), 0), (line((0, 1), (4, 1)), 1),
                 (arc((4, 1), (4, -1), (4, 0), -1), 1), (arc((4, -1), (1, 2), (4, 2), -1), 2))
        self.led(text_of(1, "left 0 2 1 1", "right -2 0 1 1"), (hop((0, 0), (0, 1)), 0),
                 (arc((0, 1), (1, 2), (0, 2), 1), 1),
                 (arc((1, 2), (3, 2), (2, 2), -1), 1), (arc((3, 2), (0, -1), (0, 2), -1), 2),
                 (arc((0, -1), (0, 1), (0, 0), -1), 2))

    def test_closed(self):
        # A half round and the line back: two corners, the tool without at each.
        self.led(text_of(-1, "left -2 0 1 0", EAST + " 4", begin="hop 2 0"), (hop((0, 0), (3, 0)), 0),
                 (arc((3, 0), (-3, 0), (0, 0), 1), 1), (arc((-3, 0), (-2, -1), (-2, 0), 1), 1),
                 (line((-2, -1), (2, -1)), 2), (arc((2, -1), (3, 0), (2, 0), 1), 2))

    def test_two_halves(self):
        self.led(text_of(1, "left -2 0 1 0", "left 2 0 1 0", begin="hop 2 0"), (hop((0, 0), (1, 0)), 0),
                 (arc((1, 0), (-1, 0), (0, 0), 1), 1), (arc((-1, 0), (1, 0), (0, 0), 1), 2))


class RefusedTest(WaysTest):
    def test_unled_first_of_all(self):
        for side in ("1", "-1", "1/2"):
            self.hinders(Unled, 0, f"side {side}\ncut 5 0")
            self.hinders(Unled, 0, f"side {side}\nby\nleft 0 1 0 1\nhop 1 1")

    def test_unled_behind_a_cut_of_another_side(self):
        for one, other in [(0, 1), (1, 0), (1, -1), (-1, 1), (1, 2), ("1/2", "1/3"), (0, -5), (-5, 0)]:
            for rows in ([EAST + " 9", NORTH + " 9"], [EAST + " 9", EAST + " 9"]):
                self.hinders(Unled, 2, text_of(one, rows[0], f"side {other}", rows[1]))
                self.hinders(Unled, 4, text_of(one, rows[0], "hop 1 1", rows[0], f"side {other}", rows[1]))
        self.hinders(Unled, 1, "cut 5 0\nside 1\ncut 9 0")
        self.hinders(Unled, 1, "cut 5 0\nside 1\nflip\ncut 9 0")

    def test_the_side_is_the_planes(self):
        self.hinders(Unled, 2, text_of(1, EAST + " 9", "flip", EAST + " 9"))
        self.led(text_of(1, EAST + " 9", "flip", "side -1", EAST + " 9"), (hop((0, 0), (0, 1)), 0),
                 (line((0, 1), (9, 1)), 1), (line((9, 1), (18, 1)), 2))

    def test_gouge_of_arcs(self):
        for side, way in [(3, "left"), (4, "left"), ("7/2", "left"), (-3, "right"), (-9, "right")]:
            self.hinders(Gouge, 1, text_of(side, f"{way} -3 0 1 1", begin="hop 3 0"))
            self.hinders(Gouge, 1, text_of(side, f"{way} -3 0 0 1", begin="hop 3 0"))
            self.hinders(Gouge, 2, text_of(side, f"{way} -10 0 1 1", f"{way} 0 -3 1 1", begin="hop 10 0"))
        way_of(road_of(text_of("299/100", "left -3 0 1 1", begin="hop 3 0")))

    def test_gouge_of_lines_cut_back_at_one_end(self):
        self.hinders(Gouge, 1, text_of(4, EAST + " 4", NORTH + " 9"))
        self.hinders(Gouge, 1, text_of(5, EAST + " 4", NORTH + " 9"))
        self.hinders(Gouge, 2, text_of(4, EAST + " 9", NORTH + " 4"))
        self.hinders(Gouge, 2, text_of(5, EAST + " 9", NORTH + " 4"))
        self.hinders(Gouge, 2, text_of(-5, WEST + " 9", NORTH + " 4"))
        way_of(road_of(text_of("399/100", EAST + " 4", NORTH + " 4")))

    def test_gouge_of_lines_cut_back_at_both_ends(self):
        self.hinders(Gouge, 2, text_of(2, EAST + " 9", NORTH + " 4", WEST + " 9"))
        self.hinders(Gouge, 2, text_of("21/10", EAST + " 9", NORTH + " 4", WEST + " 9"))
        way_of(road_of(text_of("199/100", EAST + " 9", NORTH + " 4", WEST + " 9")))
        self.hinders(Gouge, 1, text_of(2, *LEFT_SQUARE))
        self.hinders(Gouge, 1, text_of(3, *LEFT_SQUARE))
        self.hinders(Gouge, 1, text_of(-2, *RIGHT_SQUARE))

    def test_gouge_of_a_line_that_only_the_closing_cuts_back(self):
        square = [EAST + " 9", NORTH + " 9", WEST + " 9"]
        self.hinders(Gouge, 5, text_of("7/2", *square, SOUTH + " 6", SOUTH + " 3"))
        self.hinders(Gouge, 1, text_of("7/2", EAST + " 3", EAST + " 6", *square[1:], SOUTH + " 9"))
        way_of(road_of(text_of("7/2", *square, SOUTH + " 6", SOUTH + " 2")))

    def test_unmet(self):
        # A line, then an arc that begins to the left of it; an arc, then a line; two arcs.
        self.hinders(Unmet, 1, text_of(1, EAST + " 4", "left -2 0 1 1"))
        self.hinders(Unmet, 1, text_of(1, EAST + " 4", "right 2 0 1 1"))
        self.hinders(Unmet, 1, text_of(-1, EAST + " 4", "left 2 0 1 1"))
        self.hinders(Unmet, 1, text_of(1, "left 0 4 1 1", WEST + " 9"))
        self.hinders(Unmet, 1, text_of(1, "left 0 4 1 1", "left 0 -3 1 1"))
        self.hinders(Unmet, 2, text_of("1/2", EAST + " 9", "left 0 9 1 1", WEST + " 9"))

    def test_unmet_at_the_closing_joint(self):
        # A half round to the left and the line back, the tool within at both ends.
        self.hinders(Unmet, 1, text_of(1, "left -2 0 1 0", EAST + " 4", begin="hop 2 0"))
        # A quarter, then a line straight on, and lines back to its begin: within only where it closes.
        self.hinders(Unmet, 4, text_of("1/9", "left 0 2 1 1", NORTH + " 5", WEST + " 2", SOUTH + " 7", begin="hop 0 0"))

    def test_gouge_goes_ahead_of_unmet(self):
        self.hinders(Gouge, 2, text_of(4, EAST + " 9", NORTH + " 4", "left 0 -1 1 1"))
        self.hinders(Unmet, 2, text_of("1/2", EAST + " 9", NORTH + " 4", "left 0 -1 1 1"))
        self.hinders(Gouge, 1, text_of(5, "left 0 4 1 1", WEST + " 9"))

    def test_the_least_number(self):
        self.hinders(Unmet, 1, text_of(1, "left 0 4 1 1", WEST + " 1", SOUTH + " 9"))
        self.hinders(Gouge, 1, text_of(4, EAST + " 1", NORTH + " 1", "side 1", EAST + " 1"))
        self.hinders(Unled, 2, text_of(1, EAST + " 9", "side 9", NORTH + " 1", WEST + " 1"))
        self.hinders(Unled, 0, "side 9\nby\n" + "\n".join(LEFT_SQUARE))
        self.hinders(Gouge, 1, text_of(9, EAST + " 1", NORTH + " 1", "hop 0 0", "left 0 1 1 1"))
        self.hinders(Gouge, 3, text_of(1, EAST + " 1", "hop 0 0", "left 0 1 1 1", "side 2", EAST + " 1"))

    def test_unled_at_one_number_with_others(self):
        self.hinders(Unled, 2, text_of(0, EAST + " 9", "side 5", "left 0 2 1 1", WEST + " 1"))
        self.hinders(Unled, 0, "side 5\nby\nleft 0 2 1 1\nrun 1 1 5")


class PartOfARoadTest(WaysTest):
    TEXT = "hop 1 0\nside 1\nby\nrun 0 1 5\nrun 1 1 5\nhop 3 3\nside 0\nrun 0 1 2\nrun 1 0 1"

    def test_from_some_number_on(self):
        entries = road_of(self.TEXT).entries()
        self.refused(Unled, {"number": 0}, way_of, Road(entries[1:]))
        self.refused(Unled, {"number": 0}, way_of, Road(entries[2:]))
        self.told(way_of(Road(entries[3:])), [
            (hop((6, 5), (9, 8)), 0, 0), (line((9, 8), (11, 8)), 0, 1), (line((11, 8), (10, 8)), 0, 2)])
        self.told(way_of(Road(entries[4:])), [(line((9, 8), (11, 8)), 0, 0), (line((11, 8), (10, 8)), 0, 1)])
        self.told(way_of(Road(entries[6:])), [])

    def test_nothing_is_changed(self):
        road = road_of(self.TEXT)
        entries = road.entries()
        due = repr(entries)
        way = way_of(road)
        self.told(repr(road.entries()), due)
        other = way_of(Road(entries))
        self.told(repr(entries), due)
        self.told(way, other)
        other.clear()
        self.told(way_of(road), way)
        self.assertEqual(way.__class__, list)


# The same once more, by how far each led line is cut back along itself.


def minus(a, b):
    return (a[0] - b[0], a[1] - b[1])


def along(a, far, heading):
    return (a[0] + far * heading[0], a[1] + far * heading[1])


def left(heading):
    return (-heading[1], heading[0])


def cross(a, b):
    return a[0] * b[1] - a[1] * b[0]


def dot(a, b):
    return a[0] * b[0] + a[1] * b[1]


def length(a):
    square = dot(a, a)
    far = Fraction(int(square.numerator ** 0.5 + 0.5), int(square.denominator ** 0.5 + 0.5))
    assert far * far == square
    return far


class Cut:
    def __init__(self, entry, at):
        step, self.pace, side, _ = entry
        self.at, self.step, self.d = at, step, Fraction(*side)
        self.is_arc = step[0] == "arc"
        self.begin, self.end = fractions(step[1]), fractions(step[2])
        self.corner, self.unmet, self.cut_begin, self.cut_end = None, False, Fraction(0), Fraction(0)
        if self.is_arc:
            self.centre, self.way = fractions(step[3]), step[4]
            self.radius = length(minus(self.begin, self.centre))
            self.u, self.v = [tuple(self.way * part / self.radius for part in left(minus(end, self.centre)))
                              for end in (self.begin, self.end)]
            self.gouges = self.radius - self.way * self.d <= 0
        else:
            self.far = length(minus(self.end, self.begin))
            self.u = self.v = tuple(part / self.far for part in minus(self.end, self.begin))

    def is_gouge(self):
        return self.gouges if self.is_arc else self.cut_begin + self.cut_end >= self.far

    def ends(self):
        begin = along(along(self.begin, self.d, left(self.u)), self.cut_begin, self.u)
        return begin, along(along(self.end, self.d, left(self.v)), -self.cut_end, self.v)

    def led(self):
        begin, end = self.ends()
        steps = [(self.step[0], place(*begin), place(*end), *self.step[3:])]
        if self.corner:
            after = self.corner.ends()[0]
            steps.append(("arc", place(*end), place(*after), self.step[2], -1 if self.d > 0 else 1))
        return steps


def joint(one, other):
    turn = cross(one.v, other.u) * one.d
    if one.v == other.u:
        return
    if turn <= 0:
        one.corner = other
    elif one.is_arc or other.is_arc:
        one.unmet = True
    else:
        # Half the angle's tangent.
        back = turn / (1 + dot(one.v, other.u))
        one.cut_end, other.cut_begin = back, back


def other_way(entries):
    cuts = {at: Cut(entry, at) for at, entry in enumerate(entries) if entry[0][0] != "hop"}
    faults = []
    for at, cut in cuts.items():
        if cut.d and at == 0:
            faults.append((at, 0, Unled))
        if at - 1 in cuts and cuts[at - 1].d != cut.d:
            faults.append((at, 0, Unled))
        elif at - 1 in cuts and cut.d:
            joint(cuts[at - 1], cut)
        if cut.d and not (at + 1 in cuts and cuts[at + 1].d == cut.d):
            first = at
            while first - 1 in cuts and cuts[first - 1].d == cut.d:
                first -= 1
            if cuts[first].begin == cut.end and (first < at or cut.is_arc):
                joint(cut, cuts[first])
    for at, cut in cuts.items():
        if cut.d and cut.is_gouge():
            faults.append((at, 1, Gouge))
        if cut.unmet:
            faults.append((at, 2, Unmet))
    if faults:
        at, _, kind = min(faults, key=lambda fault: fault[:2])
        return kind, at
    way, spot = [], entries[0][0][1] if entries else None
    for at, (step, pace, _, _) in enumerate(entries):
        if at in cuts:
            steps = cuts[at].led()
        else:
            steps = [("hop", spot, cuts[at + 1].led()[0][1] if at + 1 in cuts else step[2])]
        way += [(step, pace, at) for step in steps]
        spot = steps[-1][2]
    return None, way


def made_up(chance):
    """A text of some contours, closed or not."""
    def far():
        return chance.choice(["1", "2", "3", "5", "1/2", "7/3"])

    def run():
        return f"run {chance.choice(['0 1', '1 1', '1 0', '-1 1', '1 2', '2 1', '-1 2', '1 3', '3 -2'])} {far()}"

    def turn():
        x, y = chance.choice([(3, 4), (0, 2), (2, 0), (-4, 3), (0, -1), (-5, 0), ("1/2", 0)])
        parts = chance.choice(["1 1", "1 2", "1 0", "2 1", "-1 1", "0 1"])
        return f"{chance.choice(['left', 'right'])} {x} {y} {parts}"

    def loop():
        kind = chance.randrange(5)
        if kind == 0:
            rows = chance.choice([LEFT_SQUARE, RIGHT_SQUARE])
            return rows[chance.randrange(4):] if chance.randrange(2) else rows
        if kind == 1:
            return chance.choice([["run 0 1 4", "run 1 1 3", "cut -4 -3"], ["cut 4 3", "run 1 0 4", "run -1 1 3"]])
        if kind == 2:
            return chance.choice([["left -2 0 1 0", "run 0 1 4"], ["right 2 0 1 0", "run 1 0 4"],
                                  ["left 0 5 1 0", "left 0 -5 1 0"],
                                  ["run 0 1 6", "left 0 3 1 0", "run 1 0 6", "left 0 -3 1 0"]])
        if kind == 3:
            return [f"{chance.choice(['left', 'right'])} 0 3 0 1"]
        return [run()]

    rows = ["by"] if chance.randrange(8) == 0 else ["by", "hop 1 1"]
    for _ in range(chance.randrange(1, 4)):
        rows += [chance.choice(["flip", f"turn {chance.choice(['1 2', '1 1', '1 3'])}"])] * (chance.randrange(4) == 0)
        rows.append(f"pace {chance.randrange(10)}")
        rows.append("side " + chance.choice("0 1 -1 1/2 -1/2 1/5 -1/5 2 -2 1/9 -1/9 -1/99".split()))
        if chance.randrange(2):
            rows += loop()
        rows += [chance.choice([run, run, turn])() for _ in range(chance.randrange(3))]
        rows += ["hop 1 2"] * (chance.randrange(6) != 0)
        rows += ["hop . ."] * (chance.randrange(6) == 0)
    return "\n".join(rows)


class ManyWaysTest(Telling):
    def test_each_is_led_alike(self):
        chance = random.Random(17)
        kinds, corners = {}, 0
        for _ in range(2500):
            text = made_up(chance)
            try:
                road = road_of(text)
            except MillError:
                continue
            entries = road.entries()
            entries = entries[chance.choice([0, 0, 0, 1, 2]):]
            kind, due = other_way(entries)
            kinds[kind] = kinds.get(kind, 0) + 1
            with self.subTest(text):
                if kind is None:
                    way = way_of(Road(entries))
                    self.told(way, due)
                    self.look_at(entries, way)
                    corners += sum(entry[0][0] == "arc" and entry[0][3] == entries[entry[2]][0][2] for entry in way)
                else:
                    self.refused(kind, {"number": due}, way_of, Road(entries))
        for kind in (None, Unled, Gouge, Unmet):
            self.assertGreater(kinds.get(kind, 0), 100, kind)
        self.assertGreater(corners, 200)

    def look_at(self, entries, way):
        """The way has no gap, is of steps, and each led cut's ends lie beside the cut's as far as told."""
        for one, other in zip(way, way[1:]):
            self.assertEqual(one[0][2], other[0][1])
            self.assertLessEqual(one[2], other[2])
        for step, pace, at in way:
            self.assertTrue(is_step(step))
            self.assertEqual(pace, entries[at][1])
            cut, d = entries[at][0], Fraction(*entries[at][2])
            if cut[0] == "line" and step[0] == "line":
                begin, whole = fractions(cut[1]), minus(fractions(cut[2]), fractions(cut[1]))
                for end in step[1:3]:
                    part = minus(fractions(end), begin)
                    self.assertEqual(cross(whole, part), d * length(whole))
                    self.assertTrue(0 <= dot(whole, part) <= dot(whole, whole))
            elif step[0] == "arc" and step[3] == cut[2]:
                self.assertEqual(length(minus(fractions(step[1]), fractions(step[3]))), abs(d))
            elif step[0] == "arc":
                self.assertEqual(step[3:], cut[3:])
                radius = length(minus(fractions(cut[1]), fractions(cut[3])))
                self.assertEqual(length(minus(fractions(step[1]), fractions(step[3]))), radius - cut[4] * d)


if __name__ == "__main__":
    unittest.main()
