import unittest
from fractions import Fraction

from toolroad.errors import NoFrame, NoPiece, NoText, TooDeep, TooMany, Uneven
from toolroad.roads import Road, road_of
from toolroad.steps import is_step
from telling import OTHER_THINGS, Telling, number, place

O = place(0, 0)
NOUGHT = (0, 1)


def rows(*texts):
    return "\n".join(texts)


def hop(begin, end):
    return ("hop", place(*begin), place(*end))


def line(begin, end):
    return ("line", place(*begin), place(*end))


def arc(begin, end, centre, way):
    return ("arc", place(*begin), place(*end), place(*centre), way)


def chain(many, inside="by"):
    """As many pieces, each called by the one ahead of it, the first one from without; the last one has this row."""
    texts = ["call a 1"]
    for at in range(many):
        name, after = "abcdefghijkl"[at:at + 2]
        texts += [f"piece {name}", f"call {after} 1" if at + 1 < many else inside, "end"]
    return texts


class RoadsTest(Telling):
    def steps(self, text):
        return [entry[0] for entry in road_of(text).entries()]

    def makes(self, text, *due):
        with self.subTest(text):
            self.told(self.steps(text), list(due))
            self.assertTrue(all([is_step(step) for step in due]))

    def last(self, text, due):
        """The last entry of a text."""
        with self.subTest(text):
            self.told(road_of(text).entries()[-1], due)

    def ends(self, text, x, y):
        """Where the last step of a text ends."""
        with self.subTest(text):
            self.told(self.steps(text)[-1][2], place(x, y))


class HopsAndCutsTest(RoadsTest):
    def test_nothing(self):
        for text in ("", "by", "flip\nback", "piece a\nhop 1 1\nend", "piece a\nend\ncall a 99"):
            self.makes(text)

    def test_the_first_entry(self):
        self.told(road_of("hop 3 4").entries(), [(("hop", O, place(3, 4)), 0, NOUGHT, ((0, 0),))])
        self.told(road_of("cut 3 4").entries(), [(("line", O, place(3, 4)), 0, NOUGHT, ((0, 0),))])

    def test_from(self):
        self.makes("hop 3 4\nhop 1 -1/2", hop((0, 0), (3, 4)), hop((3, 4), (1, Fraction(-1, 2))))
        self.makes("hop 1 1\ncut 4 5", hop((0, 0), (1, 1)), line((1, 1), (4, 5)))
        self.makes("from\nhop 3 4\nfrom\nhop 3 5", hop((0, 0), (3, 4)), hop((3, 4), (3, 5)))

    def test_by(self):
        self.makes("by\nhop 3 4\nhop 1 -1/2", hop((0, 0), (3, 4)), hop((3, 4), (4, Fraction(7, 2))))
        self.makes("hop 1 1\nby\ncut 3 4", hop((0, 0), (1, 1)), line((1, 1), (4, 5)))
        self.makes("by\nhop 1 2\nfrom\nhop 1 2", hop((0, 0), (1, 2)), hop((1, 2), (1, 2)))

    def test_hops_that_go_nowhere(self):
        self.makes("hop 0 0\nby\nhop . .", hop((0, 0), (0, 0)), hop((0, 0), (0, 0)))
        self.makes("hop 2 3\nhop . .", hop((0, 0), (2, 3)), hop((2, 3), (2, 3)))

    def test_hops_as_far_as_no_number(self):
        self.makes("hop 1 1\nhop 2 3", hop((0, 0), (1, 1)), hop((1, 1), (2, 3)))

    def test_dots(self):
        self.makes("hop 3 4\nhop . 7\nhop 5 .\ncut . 1", hop((0, 0), (3, 4)), hop((3, 4), (3, 7)),
                   hop((3, 7), (5, 7)), line((5, 7), (5, 1)))
        self.makes("hop 3 4\nby\nhop . 7\nhop 5 .\ncut . 1", hop((0, 0), (3, 4)), hop((3, 4), (3, 11)),
                   hop((3, 11), (8, 11)), line((8, 11), (8, 12)))

    def test_dots_within_frames(self):
        for frames, x, y, across, up in [
            # Where the frames lead (10, what the tool has) and (what the tool has, 10), the tool at (x, y).
            ("shift 1 2", 3, 4, (11, 4), (3, 12)), ("flip", 3, 4, (10, 4), (3, -10)),
            ("turn 1 1", 3, 4, (3, 10), (-10, 4)), ("turn 1 0", 3, 4, (-10, 4), (3, -10)),
            ("turn 1 1\nshift 1 2", 3, 4, (3, 11), (-12, 4)), ("shift 1 2\nturn 1 1", 3, 4, (3, 12), (-9, 4)),
            ("shift 1 2\nflip\nturn 1 1", 3, 4, (3, -8), (-9, 4)),
            ("turn 1 2", 5, 0, (Fraction(46, 5), Fraction(28, 5)), (Fraction(-31, 5), Fraction(42, 5))),
        ]:
            self.ends(f"hop {x} {y}\n{frames}\nhop 10 .", *across)
            self.ends(f"hop {x} {y}\n{frames}\nhop . 10", *up)
            self.ends(f"hop {x} {y}\n{frames}\nhop . .", x, y)
            self.ends(f"hop {x} {y}\n{frames}\nby\nhop . .", x, y)

    def test_from_within_frames(self):
        for frames, x, y in [
            ("shift 10 20", 13, 24), ("flip", 3, -4), ("turn 1 1", -4, 3),
            ("turn 1 2", Fraction(-7, 5), Fraction(24, 5)), ("shift 10 20\nturn 1 1", 6, 23),
            ("turn 1 1\nshift 10 20", -24, 13), ("flip\nturn 1 1", -4, -3),
            ("turn 1 1\nflip", 4, 3), ("shift 10 20\nflip\nturn 1 1\nshift 1 2", 4, 16),
        ]:
            self.ends(f"{frames}\nhop 3 4", x, y)
            self.ends(f"hop 99 99\n{frames}\nhop 3 4", x, y)

    def test_by_within_frames(self):
        for frames, x, y in [
            ("shift 10 20", 3, 4), ("flip", 3, -4), ("turn 1 1", -4, 3), ("turn 1 2", Fraction(-7, 5), Fraction(24, 5)),
            ("shift 10 20\nturn 1 1", -4, 3), ("turn 1 1\nshift 10 20", -4, 3), ("flip\nturn 1 1", -4, -3),
            ("turn 1 1\nflip", 4, 3), ("shift 10 20\nflip\nturn 1 1\nshift 1 2", -4, -3),
        ]:
            self.ends(f"by\n{frames}\nhop 3 4", x, y)
            self.ends(f"hop 99 98\nby\n{frames}\ncut 3 4", 99 + x, 98 + y)

    def test_dots_by_within_frames(self):
        self.ends("hop 5 6\nturn 1 1\nby\nhop 10 .", 5, 16)
        self.ends("hop 5 6\nturn 1 1\nshift 7 7\nby\nhop . 10", -5, 6)
        self.ends("hop 5 6\nflip\nby\nhop . 10", 5, -4)


class RunsTest(RoadsTest):
    def test_headings(self):
        for p, q, x, y in [(1, 2, 3, 4), (0, 1, 5, 0), (1, 1, 0, 5), (1, 0, -5, 0), (-1, 1, 0, -5), (2, 1, -3, 4),
                           (-1, 2, 3, -4), (2, 4, 3, 4), (1, -2, 3, -4)]:
            self.makes(f"run {p} {q} 5", line((0, 0), (x, y)))
            self.makes(f"hop 1 2\nrun {p} {q} 5/2", hop((0, 0), (1, 2)),
                       line((1, 2), (1 + Fraction(x, 2), 2 + Fraction(y, 2))))

    def test_the_mode_is_all_one(self):
        for mode in ("by", "from"):
            self.makes(f"hop 7 7\n{mode}\nrun 1 2 10", hop((0, 0), (7, 7)), line((7, 7), (13, 15)))

    def test_within_frames(self):
        for frames, x, y in [("shift 10 20", 3, 4), ("flip", 3, -4), ("turn 1 1", -4, 3), ("turn 1 1\nflip", 4, 3),
                             ("flip\nturn 1 1", -4, -3), ("shift 1 2\nturn 1 0\nshift 3 4", -3, -4)]:
            self.ends(f"{frames}\nrun 1 2 5", x, y)
            self.ends(f"hop -1 1\n{frames}\nrun 1 2 5", -1 + x, 1 + y)

    def test_runs_are_never_uneven(self):
        self.makes("run 98 99 1/999\nrun -99 98 9999", *self.steps("run 98 99 1/999\nrun -99 98 9999"))


class ArcsTest(RoadsTest):
    def test_left_and_right(self):
        for word, p, q, x, y in [
            ("left", 1, 1, 0, 5), ("right", 1, 1, 0, -5), ("left", -1, 1, 0, -5), ("right", -1, 1, 0, 5),
            ("left", 1, 0, -5, 0), ("right", 1, 0, -5, 0), ("left", 1, 2, 3, 4), ("right", 1, 2, 3, -4),
            ("left", -1, 2, 3, -4), ("right", -1, 2, 3, 4), ("left", 2, 1, -3, 4), ("right", 2, 1, -3, -4),
            ("left", 0, 1, 5, 0), ("right", 0, 1, 5, 0), ("left", 0, -7, 5, 0),
        ]:
            way = 1 if word == "left" else -1
            self.makes(f"hop 5 0\n{word} 0 0 {p} {q}", hop((0, 0), (5, 0)), arc((5, 0), (x, y), (0, 0), way))
            self.makes(f"hop 6 2\n{word} 1 2 {p} {q}", hop((0, 0), (6, 2)), arc((6, 2), (x + 1, y + 2), (1, 2), way))
            self.makes(f"hop 6 2\nby\n{word} -5 . {p} {q}", hop((0, 0), (6, 2)),
                       arc((6, 2), (x + 1, y + 2), (1, 2), way))

    def test_centres(self):
        self.makes("left 3 4 1 1", arc((0, 0), (7, 1), (3, 4), 1))
        self.makes("hop 1 1\nleft . 4 1 1", hop((0, 0), (1, 1)), arc((1, 1), (4, 4), (1, 4), 1))
        self.makes("hop 1 1\nright 4 . 1 1", hop((0, 0), (1, 1)), arc((1, 1), (4, 4), (4, 1), -1))
        self.makes("hop 1 1\nby\nleft . 4 1 1", hop((0, 0), (1, 1)), arc((1, 1), (5, 5), (1, 5), 1))
        self.makes("hop 1 1\nby\nright 4 . 1 1", hop((0, 0), (1, 1)), arc((1, 1), (5, 5), (5, 1), -1))

    def test_once_round(self):
        for word, way in [("left", 1), ("right", -1)]:
            for q in (1, -1, 99):
                self.makes(f"hop 2 2\n{word} 5 6 0 {q}", hop((0, 0), (2, 2)), arc((2, 2), (2, 2), (5, 6), way))

    def test_within_frames(self):
        for frames, spot, word, end, centre, way in [
            ("shift 5 5", "0 -5", "left", (5, -5), (5, 0), 1), ("shift 5 5", "0 -5", "right", (5, 5), (5, 0), -1),
            ("turn 1 1", "-5 0", "left", (-5, -5), (0, -5), 1), ("turn 1 1", "-5 0", "right", (5, -5), (0, -5), -1),
            ("flip", "-5 0", "left", (-5, -5), (-5, 0), -1), ("flip", "-5 0", "right", (-5, 5), (-5, 0), 1),
            ("flip\nflip", "-5 0", "left", (-5, 5), (-5, 0), 1),
            ("flip\nflip", "-5 0", "right", (-5, -5), (-5, 0), -1),
            ("flip\nturn 1 1", "5 0", "left", (5, -5), (0, -5), -1),
            ("turn 1 1\nflip", "5 0", "left", (-5, 5), (0, 5), -1),
        ]:
            self.makes(f"{frames}\n{word} {spot} 1 1", arc((0, 0), end, centre, way))

    def test_turned_about_both_modes(self):
        for mode in ("by", "from"):
            self.makes(f"flip\n{mode}\nleft 3 4 1 1", arc((0, 0), (7, -1), (3, -4), -1))
            self.makes(f"flip\n{mode}\nright 3 4 1 1", arc((0, 0), (-1, -7), (3, -4), 1))
            self.makes(f"flip\n{mode}\nleft 3 4 0 1", arc((0, 0), (0, 0), (3, -4), -1))
            self.makes(f"flip\nturn 1 1\nflip\n{mode}\nleft 3 4 1 2",
                       *self.steps(f"turn -1 1\n{mode}\nleft 3 4 1 2"))


class SettingsTest(RoadsTest):
    def test_pace_and_side(self):
        self.told([entry[1:3] for entry in road_of(rows(
            "hop 1 0", "pace 3", "hop 1 1", "side -1/2", "cut 2 1", "pace 0", "side 4", "run 0 1 1", "left . 5 0 1",
            "side 0", "hop 0 0")).entries()],
            [(0, (0, 1)), (3, (0, 1)), (3, (-1, 2)), (0, (4, 1)), (0, (4, 1)), (0, (0, 1))])

    def test_side_is_told_as_the_plane_sees_it(self):
        self.told([entry[2] for entry in road_of(rows(
            "side 2/3", "hop 1 0", "flip", "hop 1 0", "turn 1 2", "shift 1 1", "hop 1 0", "flip", "hop 1 0", "back",
            "side -5", "hop 1 0", "back", "back", "back", "hop 1 0", "flip", "side 0", "hop 1 0")).entries()],
            [(2, 3), (-2, 3), (-2, 3), (2, 3), (5, 1), (-5, 1), (0, 1)])

    def test_pace_side_and_mode_go_on_over_calls_and_their_ends(self):
        told = road_of(rows(
            "piece a", "hop 1 1", "pace 5", "side 7", "by", "end",
            "pace 2", "side 3", "hop 2 2", "call a 2", "hop 1 1", "from", "hop 1 1")).entries()
        self.told([(entry[0][2], *entry[1:3]) for entry in told], [
            (place(2, 2), 2, (3, 1)), (place(1, 1), 2, (3, 1)), (place(2, 2), 5, (7, 1)), (place(3, 3), 5, (7, 1)),
            (place(1, 1), 5, (7, 1))])

    def test_what_a_call_ahead_of_its_piece_gives(self):
        self.told([entry[1] for entry in road_of("call a 1\nhop 1 1\npiece a\npace 8\nend\nhop 2 2").entries()], [8, 8])

    def test_side_within_a_called_piece_that_flips(self):
        told = road_of(rows("piece a", "flip", "side 3", "hop 1 1", "end", "call a 1", "hop 2 2", "flip", "call a 1",
                            "hop 1 1")).entries()
        self.told([entry[2] for entry in told], [(-3, 1), (3, 1), (3, 1), (-3, 1)])


class FramesInRoadsTest(RoadsTest):
    def test_back(self):
        self.ends("shift 1 0\nback\nhop 3 4", 3, 4)
        self.ends("shift 1 0\nshift 0 10\nback\nhop 3 4", 4, 4)
        self.ends("shift 1 0\nflip\nturn 1 1\nback\nback\nhop 3 4", 4, 4)
        self.ends("shift 1 0\nback\nshift 2 0\nhop 3 4", 5, 4)

    def test_what_a_turn_put_goes_with_its_end(self):
        text = rows("piece a", "shift 1 0", "hop 0 0", "end", "call a 3", "hop 0 0")
        self.told([step[2] for step in self.steps(text)], [place(1, 0), place(1, 0), place(1, 0), O])

    def test_what_stands_without_holds_within(self):
        text = rows("piece a", "shift 1 0", "hop 0 0", "back", "hop 0 0", "end", "turn 1 1", "call a 2", "hop 1 0",
                    "back", "hop 1 0")
        self.told([step[2] for step in self.steps(text)],
                  [place(0, 1), O, place(0, 1), O, place(0, 1), place(1, 0)])

    def test_what_a_call_within_put_goes_with_its_end(self):
        text = rows("piece a", "shift 1 0", "call b 2", "hop 0 0", "back", "hop 0 0", "end",
                    "piece b", "shift 0 1", "hop 0 0", "end", "call a 1", "hop 0 0")
        self.told([step[2] for step in self.steps(text)], [place(1, 1), place(1, 1), place(1, 0), O, O])

    def test_back_takes_none_but_what_this_turn_put(self):
        for text, row in [
            ("back", 0), ("by\nback", 1), ("shift 1 1\nback\nback", 2), ("flip\ncall a 1\npiece a\nback\nend", 3),
            ("piece a\nback\nend\nflip\ncall a 1", 1), ("piece a\nflip\nend\ncall a 1\nback", 4),
            ("piece a\nflip\nback\nback\nend\nflip\ncall a 1", 3),
            ("call a 1\npiece a\nflip\ncall b 1\nend\npiece b\nback\nend", 6),
            ("call a 1\npiece a\ncall b 1\nback\nend\npiece b\nflip\nend", 3),
            ("call a 2\npiece a\nflip\nback\nend\nback", 5),
        ]:
            with self.subTest(text):
                self.refused(NoFrame, {"row": row}, road_of, text)
        self.makes("flip\nback\nflip\nback\npiece a\nflip\nback\nflip\nend\ncall a 9\nflip\nback")

    def test_frames_as_many_as_may_be(self):
        for row in ("flip", "shift 0 0", "turn 1 0"):
            texts = [row] * 8
            with self.subTest(row):
                self.told(len(road_of(rows(*texts, "hop 1 1"))), 1)
                self.refused(NoFrame, {"row": 8}, road_of, rows(*texts, "flip"))
                self.refused(NoFrame, {"row": 8}, road_of, rows(*texts, "shift 1 1"))
                self.refused(NoFrame, {"row": 8}, road_of, rows(*texts, "turn 1 1"))
                self.told(len(road_of(rows(*texts, "back", "flip"))), 0)
                self.refused(NoFrame, {"row": 10}, road_of, rows(*texts, "back", "flip", row))

    def test_frames_as_many_as_may_be_over_calls(self):
        ahead = ["call a 1", "piece a", "flip", "flip", "call b 1", "end", "piece b", "flip", "flip"]
        self.told(len(road_of(rows("flip", "flip", "flip", "flip", *ahead, "end"))), 0)
        self.refused(NoFrame, {"row": 13}, road_of, rows("flip", "flip", "flip", "flip", *ahead, "flip", "end"))
        self.refused(NoFrame, {"row": 13}, road_of, rows(*["flip"] * 5, *ahead, "end"))
        self.refused(NoFrame, {"row": 10}, road_of, rows(*["flip"] * 7, *ahead, "end"))
        self.told(len(road_of(rows("call a 9", "call a 9", "piece a", *["flip"] * 8, "end", *["flip"] * 8))), 0)


class CallsTest(RoadsTest):
    def trails(self, text):
        return [entry[3] for entry in road_of(text).entries()]

    def test_trails(self):
        self.told(self.trails("hop 1 1\nby\nhop 2 2"), [((0, 0),), ((2, 0),)])
        self.told(self.trails("piece a\nhop 1 1\nend\nhop 2 2\ncall a 2\nhop 3 3"), [
            ((3, 0),), ((4, 0), (1, 0)), ((4, 1), (1, 0)), ((5, 0),)])
        self.told(self.trails("call a 2\npiece a\nhop 1 1\ncall b 2\nhop 2 2\nend\npiece b\nhop 3 3\nend\ncall b 1"), [
            ((0, 0), (2, 0)), ((0, 0), (3, 0), (7, 0)), ((0, 0), (3, 1), (7, 0)), ((0, 0), (4, 0)),
            ((0, 1), (2, 0)), ((0, 1), (3, 0), (7, 0)), ((0, 1), (3, 1), (7, 0)), ((0, 1), (4, 0)),
            ((9, 0), (7, 0))])

    def test_the_tool_goes_on_over_a_calls_end(self):
        text = rows("by", "piece a", "hop 1 0", "run 1 1 2", "end", "call a 3", "hop 0 1")
        self.ends(text, 3, 7)
        self.told(len(road_of(text)), 7)

    def test_pieces_that_are_not_called_are_passed_over(self):
        self.makes("hop 1 1\npiece a\nback\ncut . .\ncall a 9\nend\nhop 2 2", hop((0, 0), (1, 1)), hop((1, 1), (2, 2)))

    def test_as_deep_as_may_be(self):
        told = road_of(rows(*chain(8, "hop 1 1"))).entries()
        self.told(told, [(hop((0, 0), (1, 1)), 0, NOUGHT, (
            (0, 0), (2, 0), (5, 0), (8, 0), (11, 0), (14, 0), (17, 0), (20, 0), (23, 0)))])

    def test_too_deep(self):
        self.refused(TooDeep, {"row": 23}, road_of, rows(*chain(9, "hop 1 1")))
        self.refused(TooDeep, {"row": 23}, road_of, rows(*chain(9)))
        self.refused(TooDeep, {"row": 23}, road_of, rows(*chain(10)))
        self.refused(TooDeep, {"row": 1}, road_of, "piece a\ncall a 1\nend\ncall a 1")
        self.refused(TooDeep, {"row": 1}, road_of, "piece a\ncall a 99\nend\ncall a 99")
        self.refused(TooDeep, {"row": 4}, road_of, "piece a\ncall b 1\nend\npiece b\ncall a 1\nend\ncall a 1")
        # Also where the piece that is called has no rows.
        self.refused(TooDeep, {"row": 23}, road_of, rows(*chain(8, "call z 1"), "piece z", "end"))
        self.told(len(road_of(rows(*chain(7, "call z 1"), "piece z", "hop 1 1", "end"))), 1)

    def test_one_behind_another_is_not_within(self):
        text = rows(*["call a 3"] * 20, "piece a", "call b 2", "call b 1", "end", "piece b", "by", "end")
        self.told(len(road_of(text)), 0)

    def test_deep_ones_end_again(self):
        text = rows(*chain(8, "by"), "call a 2", "hop 1 1", "call a 1", "hop 2 2")
        self.told(self.trails(text), [((26, 0),), ((28, 0),)])


class RefusedTest(RoadsTest):
    def test_what_is_no_program(self):
        self.refused(NoText, {"at": 1}, road_of, "by\ngo")
        self.refused(NoText, {"at": 2}, road_of, "back\ncall a 1\n")
        self.refused(NoPiece, {"name": "a"}, road_of, "back\ncall a 1")
        self.refused(TooMany, {"most": 80}, road_of, "back\n" * 80)
        for thing in OTHER_THINGS:
            with self.subTest(str(thing)[:60]):
                self.refused(NoText, {"at": 0}, road_of, thing)

    def test_rows_done(self):
        # 1 + 99 * 19 and 1 + 13 * 9 are 2000.
        done = rows("piece a", *["from"] * 19, "end", "call a 99", "piece b", *["pace 1"] * 9, "end", "call b 13")
        self.told(len(road_of(done)), 0)
        for last in ("by", "from", "pace 1", "side 1", "flip", "shift 1 1", "turn 1 1", "back", "hop 1 1", "cut . .",
                     "cut 1 0", "run 1 1 1", "left . . 1 1", "right 1 1 1 1", "call a 1", "call c 1\npiece c\nend"):
            with self.subTest(last):
                self.refused(TooMany, {"most": 2000}, road_of, rows(done, last))
        self.told(len(road_of(rows(done, "piece c", "by", "end"))), 0)

    def test_rows_done_at_the_bound(self):
        def text(many):
            # 1 + 99 * 20 is 1981.
            return rows("call a 99", "piece a", *["by"] * 20, "end", *["by"] * (many - 1981))
        for many in (1981, 1999, 2000):
            self.told(len(road_of(text(many))), 0)
        for many in (2001, 2002, 2030):
            self.refused(TooMany, {"most": 2000}, road_of, text(many))

    def test_a_call_is_done_once_for_all_its_turns(self):
        empty = ["piece e", "end", "call a 99", "piece a"]
        self.told(len(road_of(rows(*empty, *["call e 99"] * 20, "end", *["by"] * 19))), 0)
        self.refused(TooMany, {"most": 2000}, road_of, rows(*empty, *["call e 99"] * 20, "end", *["by"] * 20))
        self.told(len(road_of(rows("call e 99", "call e 99", "piece e", "end"))), 0)

    def test_calls_within_calls_are_counted(self):
        # Turn by turn one call and 2 rows 9 times: 19 * 99 + 1 is 1882.
        text = rows("call a 99", "piece a", "call b 9", "end", "piece b", "by", "by", "end", "call c 13", "piece c",
                    *["by"] * 9, "end")
        self.told(len(road_of(text)), 0)
        self.refused(TooMany, {"most": 2000}, road_of, text + "\nby")

    def test_steps(self):
        for row in ("hop 1 1", "run 1 1 1", "left 3 4 1 1", "by\ncut 1 0", "right 3 4 0 1"):
            text = rows("piece a", row, "end", "call a 99")
            with self.subTest(row):
                self.told(len(road_of(text)), 99)
                self.told(len(road_of(text + "\nhop 7 7")), 100)
                self.told(len(road_of(text + "\nhop 7 7\nby\nflip\nback\npace 1\npiece z\nend\ncall z 9")), 100)
                for last in ("hop 1 1", "cut 1 1", "run 1 1 1", "left 0 0 1 1", "right . . 1 1", "cut . ."):
                    self.refused(TooMany, {"most": 100}, road_of, text + "\nhop 7 7\n" + last)

    def test_uneven_lines(self):
        for text, row in [
            ("cut 0 0", 0), ("cut . .", 0), ("cut 1 1", 0), ("by\ncut . .", 1), ("by\ncut 1 1", 1),
            ("hop 1 2\ncut 1 2", 1), ("hop 1 2\ncut . 2", 1), ("hop 1 2\ncut 2 4", 1), ("turn 1 2\ncut 1 1", 1),
            ("piece a\ncut 1 1/2\nend\nby\ncall a 2", 1), ("call a 2\npiece a\nhop 1 0\ncut 3 3\nend", 3),
            ("cut 3 4\ncut 3 4", 1), ("shift 3 3\nhop 0 0\ncut 1 1", 2),
        ]:
            with self.subTest(text):
                self.refused(Uneven, {"row": row}, road_of, text)
        self.makes("by\ncut 1 0\ncut 3 4", line((0, 0), (1, 0)), line((1, 0), (4, 4)))

    def test_uneven_arcs(self):
        for word in ("left", "right"):
            for text, row in [
                ("{} 0 0 1 1", 0), ("{} . . 1 1", 0), ("{} 1 1 1 1", 0), ("{} 1 1 0 1", 0), ("by\n{} . . 0 1", 1),
                ("hop 1 2\n{} . 2 1 0", 1), ("hop 1 2\n{} 2 3 1 0", 1), ("flip\n{} 1 2 1 1", 1),
                ("by\nhop 3 4\n{} 0 0 5 4", 2), ("call a 3\npiece a\n{} 2 2 1 2\nend", 2),
            ]:
                with self.subTest(text=text, word=word):
                    self.refused(Uneven, {"row": row}, road_of, text.format(word))

    def test_what_comes_first_in_running_goes_ahead(self):
        for text, kind, row in [
            ("back\ncut . .", NoFrame, 0), ("cut . .\nback", Uneven, 0),
            ("call a 1\nback\npiece a\ncut . .\nend", Uneven, 3), ("piece a\ncut . .\nend\nback\ncall a 1", NoFrame, 3),
            ("piece a\nback\nend\ncut . .\ncall a 1", Uneven, 3),
            ("piece a\ncall a 1\nend\nback\ncall a 1", NoFrame, 3),
            ("piece a\ncall a 1\nback\nend\ncall a 1", TooDeep, 1),
            ("piece a\nflip\ncall a 1\nend\ncall a 1", TooDeep, 2),
            ("piece a\nflip\ncall a 1\nend\nflip\ncall a 1", NoFrame, 1),
            ("piece a\nflip\nflip\ncall a 1\nend\ncall a 1", NoFrame, 1),
            ("piece a\nback\ncall a 1\nend\ncall a 1", NoFrame, 1),
        ]:
            with self.subTest(text):
                self.refused(kind, {"row": row}, road_of, text)

    def test_steps_ahead_of_rows(self):
        text = rows("piece a", "hop 1 1", "by", "end", "call a 99", "call a 99", "back")
        self.refused(TooMany, {"most": 100}, road_of, text)
        self.refused(NoFrame, {"row": 4}, road_of, rows("piece a", "hop 1 1", "end", "call a 99", "back", "call a 99"))

    def test_within_one_row_by_the_order_of_the_point(self):
        full = ["piece z", *["by"] * 20, "end", "call z 99"]
        done = rows(*full, *["from"] * 19)
        for row in ("cut . .", "left . . 1 1", "back", "hop 1 1", "call z 1"):
            self.refused(TooMany, {"most": 2000}, road_of, rows(done, row))
        # A further step, uneven too.
        hops = rows("piece a", "hop 1 1", "end", "call a 99", "hop 1 1")
        for row in ("cut . .", "cut 2 2", "left . . 1 1"):
            self.refused(TooMany, {"most": 100}, road_of, rows(hops, row))
        # A hundred steps and 2000 rows: 1 + 99 * 20 + 19.
        both = rows("piece a", "hop 1 1", *["by"] * 19, "end", "call a 99", "hop 1 1", *["by"] * 18)
        self.told(len(road_of(both)), 100)
        for row in ("hop 1 1", "cut . .", "by"):
            self.refused(TooMany, {"most": 2000}, road_of, rows(both, row))
        # A ninth frame, and a call within eight calls, behind 2000 rows.
        self.refused(TooMany, {"most": 2000}, road_of, rows(*full, *["flip"] * 8, *["by"] * 11, "flip"))
        # 1 + 99 * 20 rows, 10 more and eight calls are 1999; the ninth call is too deep.
        self.refused(TooDeep, {"row": 56}, road_of, rows(*full, *["by"] * 10, *chain(9)))
        self.refused(TooMany, {"most": 2000}, road_of, rows(*full, *["by"] * 11, *chain(9)))

    def test_alike_each_time_also_behind_a_refusal(self):
        good = rows("piece a", "flip", "side 2", "pace 4", "by", "hop 1 2", "left 3 4 1 2", "end", "shift 1 1",
                    "call a 3")
        due = road_of(good).entries()
        for bad in ("back", "flip\nside 3\npace 9\nby\nhop 5 5\ncut . .", "piece a\nflip\ncall a 1\nend\ncall a 2",
                    "go", "call none 1", "hop 1 1\npiece a\nhop 9 9\nend\ncall a 99\ncall a 9", "", None):
            with self.subTest(bad):
                try:
                    road_of(bad)
                except (ValueError, KeyError):
                    pass
                self.told(road_of(good).entries(), due)
                self.assertEqual(road_of(good), road_of(good))


class RoadTest(Telling):
    def test_made_of_entries(self):
        entries = road_of("hop 3 4\nside 2\ncut 0 0\npace 5\nleft 3 4 0 1").entries()
        for many in range(len(entries) + 1):
            road = Road(entries[:many])
            self.told(road.entries(), entries[:many])
            self.told(len(road), many)
            self.told(repr(road), f"Road({many})")

    def test_repr_and_len_of_a_told_one(self):
        self.told(repr(road_of("")), "Road(0)")
        self.told(len(road_of("")), 0)
        self.told(repr(road_of("piece a\nhop 1 1\nend\ncall a 99\nhop 1 1")), "Road(100)")
        self.told(len(road_of("hop 1 1\nby\nhop 1 1")), 2)

    def test_each_entry_is_a_tuple(self):
        road = road_of("piece a\nside 1/2\npace 9\nhop 1 1\nend\ncall a 2")
        self.assertIs(road.entries().__class__, list)
        self.told(road.entries(), [
            (("hop", O, place(1, 1)), 9, (1, 2), ((5, 0), (3, 0))),
            (("hop", place(1, 1), place(1, 1)), 9, (1, 2), ((5, 1), (3, 0)))])

    def test_entries_are_the_askers_own(self):
        road = road_of("hop 3 4\ncut 0 0")
        due = road.entries()
        told = road.entries()
        told.append(None)
        told[0] = 7
        self.told(road.entries(), due)
        self.told(len(road), 2)
        road.entries().clear()
        self.told(road.entries(), due)
        self.assertIsNot(road.entries(), road.entries())
        self.assertEqual(road, road_of("hop 3 4\ncut 0 0"))

    def test_the_list_that_was_handed_in_stays_the_askers(self):
        entries = road_of("hop 3 4\ncut 0 0").entries()
        handed = list(entries)
        road, other = Road(handed), Road(handed)
        self.told(handed, entries)
        handed.pop()
        handed.insert(0, None)
        self.told(road.entries(), entries)
        self.told(len(other), 2)

    def test_equal(self):
        one, other = road_of("hop 3 4\nby\ncut 3 4"), road_of("hop 3 4\nby\ncut 3 4")
        self.told(one == other, True)
        self.told(one != other, False)
        self.told(one == Road(other.entries()), True)
        self.told(road_of("") == Road([]), True)
        self.told(one == one, True)

    def test_unlike(self):
        one = road_of("hop 3 4\nhop 0 0")
        for other in ["hop 3 4", "hop 3 4\nhop 0 1", "hop 3 4\ncut 0 0", "pace 1\nhop 3 4\nhop 0 0", "",
                      "hop 0 0\nhop 3 4", "hop 3 4\nside 1\nhop 0 0", "hop 3 4\nby\nfrom\nhop 0 0",
                      "hop 3 4\nhop 0 0\nhop 0 0"]:
            with self.subTest(other):
                self.told(one == road_of(other), False)
                self.told(one != road_of(other), True)
                self.told(road_of(other) == one, False)

    def test_no_other_thing_is_equal(self):
        one = road_of("hop 3 4")
        for other in [one.entries(), tuple(one.entries()), None, 1, True, "Road(1)", repr(one), {}, object()]:
            with self.subTest(str(other)[:40]):
                self.told(one == other, False)
                self.told(one != other, True)
                self.told(other == one, False)
        self.told(Road([]) == [], False)
        self.told(Road([]) == "", False)

    def test_two_roads_know_nothing_of_one_another(self):
        one, other = Road([]), road_of("hop 3 4")
        self.told((len(one), len(other)), (0, 1))
        self.told((len(road_of("hop 1 1")), len(road_of("hop 1 1\nhop 2 2"))), (1, 2))
        self.told(one.entries(), [])

    def test_great_figures(self):
        told = road_of(rows("turn 98 99", "turn 97 98", "piece a", "run 89 97 9999/998", "run 83 79 9999/997", "end",
                            "call a 50")).entries()
        self.told(len(told), 100)
        self.told([is_step(entry[0]) for entry in told], [True] * 100)
        self.told([number(Fraction(*told[at][0][1][0])) for at in range(1, 100)],
                  [told[at][0][2][0] for at in range(99)])


if __name__ == "__main__":
    unittest.main()
