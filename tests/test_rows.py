import unittest

from toolroad.errors import NoPiece, NoText, TooMany
from toolroad.rows import MOST_ROWS, program_text, read_program
from telling import GREATER, OTHER_THINGS, Telling

# Rows that may stand alone, each with what it is read as.
LONE = [
    ("hop 1 2", ("hop", (1, 1), (2, 1))), ("hop . .", ("hop", None, None)), ("hop . -3/2", ("hop", None, (-3, 2))),
    ("hop 0 .", ("hop", (0, 1), None)), ("hop 9999 -9999", ("hop", (9999, 1), (-9999, 1))),
    ("hop 1/999 9998/999", ("hop", (1, 999), (9998, 999))), ("hop -1/2 -9998/3", ("hop", (-1, 2), (-9998, 3))),
    ("cut 3 4", ("cut", (3, 1), (4, 1))), ("cut . .", ("cut", None, None)), ("cut -7/8 .", ("cut", (-7, 8), None)),
    ("run 1 2 5", ("run", 1, 2, (5, 1))), ("run -99 99 1/999", ("run", -99, 99, (1, 999))),
    ("run 0 1 9999", ("run", 0, 1, (9999, 1))), ("run 1 0 9998/3", ("run", 1, 0, (9998, 3))),
    ("left 1 2 3 4", ("left", (1, 1), (2, 1), 3, 4)), ("left . . 0 1", ("left", None, None, 0, 1)),
    ("left 1/2 . -1 0", ("left", (1, 2), None, -1, 0)),
    ("right . -9999/2 99 -99", ("right", None, (-9999, 2), 99, -99)),
    ("right 0 0 0 -99", ("right", (0, 1), (0, 1), 0, -99)),
    ("by", ("by",)), ("from", ("from",)), ("flip", ("flip",)), ("back", ("back",)),
    ("pace 0", ("pace", 0)), ("pace 9", ("pace", 9)), ("pace 4", ("pace", 4)),
    ("side 0", ("side", (0, 1))), ("side -1/2", ("side", (-1, 2))), ("side 9999", ("side", (9999, 1))),
    ("side -9999/998", ("side", (-9999, 998))),
    ("shift 0 0", ("shift", (0, 1), (0, 1))), ("shift -5/6 9999", ("shift", (-5, 6), (9999, 1))),
    ("turn 1 0", ("turn", 1, 0)), ("turn 0 -1", ("turn", 0, -1)), ("turn -99 99", ("turn", -99, 99)),
    ("turn 2 4", ("turn", 2, 4)),
]
# Words that are no number of a row.
NO_NUMBERS = [
    "", "-", "--1", "+1", "-0", "00", "01", "-01", "007", "1/1", "-1/1", "2/2", "2/4", "-2/4", "4/2", "0/1", "0/2",
    "1/0", "0/0", "1/-2", "-1/-2", "1/", "/2", "/", "1/2/3", "1/02", "01/2", "1.5", ".5", "1.", "..", "1e2", "a", "x",
    "1_0", "10000", "-10000", "10000/3", "1/1000", "-1/1000", "1/1001", "123456789", "9" * 300, "1/" + "9" * 300,
    "1,2", "(1,1)", "None", "1/2.", "-.", "0x1", "1 ", "\t1", "1-", "1/2-", "--", "9999/1000",
]
NO_WHOLES = NO_NUMBERS + [".", "1/2", "-3/2", "100", "-100", "101", "999", "9999"]
NO_PACES = NO_NUMBERS + [".", "1/2", "-1", "10", "99", "-9"]
NO_TURNS = NO_NUMBERS + [".", "1/2", "0", "-1", "100", "1000"]
NO_NAMES = ["", "A", "aB", "a1", "1", "a-b", "a_b", "abcdefghi", "z" * 9, "z" * 300, ".", "a.", "-", "a'", "?",
            "a`", "{"]
NAMES = ["a", "z", "ab", "abcdefgh", "zzzzzzzz", "hop", "piece", "end", "call", "by"]


class ReadProgramTest(Telling):
    def no_text(self, thing, at):
        with self.subTest(str(thing)[:60]):
            self.refused(NoText, {"at": at}, read_program, thing)

    def no_row(self, text):
        """The text is no row, wherever it stands."""
        self.no_text(text, 0)
        self.no_text("by\n" + text, 1)
        self.no_text("piece a\n" + text + "\nend\nby", 1)

    def both_ways(self, text, due):
        with self.subTest(text[:60]):
            self.told(read_program(text), due)
            self.told(program_text(due), text)

    def test_each_row(self):
        for text, row in LONE:
            self.both_ways(text, (row,))
            self.both_ways("by\n" + text + "\nflip", (("by",), row, ("flip",)))
            self.both_ways("piece a\n" + text + "\nend", (("piece", "a"), row, ("end",)))

    def test_many_rows(self):
        self.both_ways("\n".join([text for text, _ in LONE]), tuple([row for _, row in LONE]))

    def test_the_text_without_signs(self):
        self.both_ways("", ())

    def test_names(self):
        for name in NAMES:
            self.both_ways(f"piece {name}\nend", (("piece", name), ("end",)))
            self.both_ways(f"piece {name}\nend\ncall {name} 7", (("piece", name), ("end",), ("call", name, 7)))

    def test_pieces_ahead_of_and_behind_their_calls(self):
        self.both_ways("piece a\nback\nend\ncall a 1", (("piece", "a"), ("back",), ("end",), ("call", "a", 1)))
        self.both_ways("call a 99\npiece a\nback\nend", (("call", "a", 99), ("piece", "a"), ("back",), ("end",)))
        self.both_ways(
            "piece a\ncall b 2\nend\npiece b\ncall a 3\ncall b 4\nend",
            (("piece", "a"), ("call", "b", 2), ("end",), ("piece", "b"), ("call", "a", 3), ("call", "b", 4), ("end",)))

    def test_as_many_rows_as_may_be(self):
        self.told(MOST_ROWS, 80)
        self.both_ways("\n".join(["by"] * 80), (("by",),) * 80)
        self.both_ways("\n".join(["hop -9999/998 -9999/998"] * 80), (("hop", (-9999, 998), (-9999, 998)),) * 80)

    def test_every_small_whole_number(self):
        for k in range(-102, 103):
            within = -99 <= k <= 99
            for row in (f"turn {k} 1", f"turn 1 {k}"):
                if within:
                    self.both_ways(row, (("turn", *map(int, row.split()[1:])),))
                else:
                    self.no_row(row)
            if 0 <= k <= 9:
                self.both_ways(f"pace {k}", (("pace", k),))
            else:
                self.no_row(f"pace {k}")
            if 1 <= k <= 99:
                self.both_ways(f"call a {k}\npiece a\nend", (("call", "a", k), ("piece", "a"), ("end",)))
            else:
                self.no_text(f"call a {k}\npiece a\nend", 0)

    def test_words_that_are_no_numbers(self):
        for word in NO_NUMBERS:
            for row in (f"hop {word} 1", f"hop 1 {word}", f"cut {word} .", f"cut . {word}", f"left {word} 1 1 1",
                        f"right . {word} 1 1", f"side {word}", f"shift {word} 1", f"shift 1 {word}", f"run 1 1 {word}"):
                self.no_row(row)

    def test_dots_where_none_may_be(self):
        for row in ("side .", "shift . 1", "shift 1 .", "run 1 1 .", "run . 1 1", "run 1 . 1", "turn . 1", "turn 1 .",
                    "left 1 1 . 1", "right 1 1 1 .", "pace .", "piece .", "call . 1", "."):
            self.no_row(row)

    def test_words_that_are_no_part_of_a_heading(self):
        for word in NO_WHOLES:
            for row in (f"run {word} 1 1", f"run 1 {word} 1", f"turn {word} 1", f"turn 1 {word}",
                        f"left 1 1 {word} 1", f"right . . 1 {word}"):
                self.no_row(row)

    def test_both_parts_of_a_heading_0(self):
        for row in ("run 0 0 1", "turn 0 0", "left 1 2 0 0", "right . . 0 0"):
            self.no_row(row)
        for row in ("left 0 0 0 1", "right 0 0 1 0", "shift 0 0", "hop 0 0", "cut 0 0"):
            self.told(len(read_program(row)), 1)

    def test_lengths(self):
        for word in ("0", "-1", "-1/2", "-9999", "-1/999"):
            self.no_row(f"run 1 2 {word}")

    def test_paces_and_turns(self):
        for word in NO_PACES:
            self.no_row(f"pace {word}")
        for word in NO_TURNS:
            self.no_text(f"call a {word}\npiece a\nend", 0)
            self.no_text(f"piece a\ncall a {word}\nend", 1)

    def test_words_that_are_no_names(self):
        for name in NO_NAMES:
            self.no_text(f"piece {name}\nend", 0)
            self.no_text(f"by\ncall {name} 1", 1)

    def test_words_too_many_or_too_few(self):
        for text, row in LONE + [("piece a", ()), ("call a 1", ())]:
            words = text.split(" ")
            for many in range(1, len(words)):
                self.no_row(" ".join(words[:many]))
            for more in ("1", ".", "a", "by", "0"):
                self.no_row(text + " " + more)
        self.no_text("piece a\nend a", 1)
        self.no_text("piece a b\nend", 0)
        self.no_text("piece\nend", 0)

    def test_blanks_too_many_or_too_few(self):
        for text, row in LONE + [("piece a", ()), ("call a 1", ())]:
            for spaced in (" " + text, text + " ", "  " + text, text + "  ", text + "\t", "\t" + text):
                self.no_row(spaced)
            if " " in text:
                for spaced in (text.replace(" ", "  ", 1), text.replace(" ", "", 1), text.replace(" ", "\t", 1),
                               text.replace(" ", ",", 1), text.replace(" ", "_", 1)):
                    self.no_row(spaced)
                self.no_row("  ".join(text.rsplit(" ", 1)))
        self.no_row(" ")
        self.no_row("    ")

    def test_empty_rows_and_line_ends(self):
        self.no_text("\n", 0)
        self.no_text("\nby", 0)
        self.no_text("by\n", 1)
        self.no_text("by\n\nby", 1)
        self.no_text("by\nby\n", 2)
        self.no_text("by\nby\n\n", 2)
        self.no_text("by\r\nby", 0)
        self.no_text("by\rby", 0)

    def test_other_words(self):
        for row in ("go", "Hop 1 2", "HOP 1 2", "hops 1 2", "jump 1 2", "arc 1 2 3 4", "line 1 2", "b", "bye", "By",
                    "1", "hop,1,2", "#", "# by", "by # so", "by;", "end.", "None", "X", "NAME", "?", "~", "hop X Y"):
            self.no_row(row)

    def test_ends_that_end_none(self):
        self.no_text("end", 0)
        self.no_text("by\nend", 1)
        self.no_text("piece a\nend\nend", 2)
        self.no_text("piece a\nby\nend\nby\nend\npiece b\nend", 4)

    def test_pieces_within_pieces(self):
        self.no_text("piece a\npiece b\nend\nend", 1)
        self.no_text("piece a\npiece a\nend", 1)
        self.no_text("by\npiece a\nby\npiece b\nend", 3)

    def test_a_name_twice(self):
        self.no_text("piece a\nend\npiece a\nend", 2)
        self.no_text("piece a\nend\npiece b\nend\nby\npiece a\nend", 5)
        self.no_text("piece a\nend\npiece a", 2)
        self.told(len(read_program("piece a\nend\npiece aa\nend")), 4)

    def test_a_piece_that_is_not_ended(self):
        self.no_text("piece a", 1)
        self.no_text("piece a\nby\nby", 3)
        self.no_text("by\npiece a\nend\npiece b", 4)
        self.no_text("\n".join(["piece a"] + ["by"] * 79), 80)

    def test_the_first_row_that_is_wrong_is_told(self):
        self.no_text("piece a\nby\ngo", 2)
        self.no_text("piece a\ngo\npiece b", 1)
        self.no_text("piece a\npiece b\ngo", 1)
        self.no_text("end\ngo", 0)
        self.no_text("go\nend", 0)
        self.no_text("piece a\nend\npiece a\ngo", 2)
        self.no_text("piece a\nend\ngo\npiece a", 2)
        self.no_text("\n".join(["by"] * 79 + ["go"]), 79)

    def test_things_that_are_no_text(self):
        for thing in OTHER_THINGS + [("by",), ["by"], ["by\nby"], (("by",),), ("hop", (1, 1), (2, 1)), 80]:
            self.no_text(thing, 0)

    def test_more_rows_than_may_be(self):
        for text in ("\n".join(["by"] * 81), "\n".join(["go"] * 81), "\n" * 80, "\n" * 3999,
                     "\n".join(["by"] * 80) + "\n", "\n".join(["call none 1"] * 81), "end\n" + "by\n" * 80,
                     "\n".join(["piece a"] * 90)):
            with self.subTest(text[:20]):
                self.refused(TooMany, {"most": 80}, read_program, text)

    def test_one_row_below_more_than_may_be(self):
        self.no_text("\n".join(["go"] * 80), 0)
        self.no_text("\n" * 79, 0)
        self.no_text("\n".join(["by"] * 79) + "\n", 79)

    def test_names_that_no_piece_has(self):
        for text, name in [
            ("call a 1", "a"), ("by\ncall abcdefgh 99", "abcdefgh"), ("piece a\nend\ncall b 1", "b"),
            ("piece a\ncall b 2\nend", "b"), ("call b 1\ncall c 1\npiece b\nend", "c"),
            ("call d 1\ncall c 1\npiece b\nend", "d"), ("piece a\ncall z 1\nend\ncall y 1", "z"),
            ("call y 1\npiece a\ncall z 1\nend", "y"), ("piece ab\nend\ncall a 1", "a"),
            ("piece a\nend\ncall aa 1", "aa"),
        ]:
            with self.subTest(text):
                self.refused(NoPiece, {"name": name}, read_program, text)

    def test_names_that_no_piece_has_behind_all_that_is_no_text(self):
        self.no_text("call a 1\ngo", 1)
        self.no_text("call a 1\nend", 1)
        self.no_text("call a 1\npiece b", 2)
        self.no_text("call a 1\npiece b\npiece c\nend", 2)
        self.no_text("call a 1\ncall b 0", 1)
        self.no_text("\n".join(["call a 1"] * 79) + "\n", 79)

    def test_alike_each_time(self):
        for _ in range(3):
            self.told(read_program("hop . 1/2"), (("hop", None, (1, 2)),))
            self.refused(NoText, {"at": 0}, read_program, "hop . 2/4")
            self.refused(NoPiece, {"name": "a"}, read_program, "call a 1")
            self.told(read_program("piece a\nend"), (("piece", "a"), ("end",)))

    def test_great_numbers(self):
        self.no_row(f"hop {GREATER} 1")
        self.no_row(f"hop 1/{GREATER} 1")
        self.no_row(f"pace {GREATER}")
        self.no_row("turn 1 " + "9" * 3900)


if __name__ == "__main__":
    unittest.main()
