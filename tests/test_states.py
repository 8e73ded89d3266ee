import random
import unittest

from toolroad.amounts import number_text
from toolroad.errors import MillError, NoFrame, NoPiece, NoState, NoStep, NoText, TooDeep, TooMany, Uneven
from toolroad.roads import Road, road_of
from toolroad.states import State, read_state, road_from, state_at
from telling import GREAT, GREATER, OTHER_THINGS, Telling, place
from test_many_programs import made_up

O = place(0, 0)
NOUGHT = (0, 1)

# Every kind of setting, and calls within calls, in several turns.
RICH = """shift 1 2
pace 3
call a 2
side 1/2
hop 0 0
piece b
flip
run 1 2 5
back
turn 1 2
by
left . -1/2 1 1
end
piece a
shift -1 1/3
flip
call b 3
pace 7
hop 1 .
side -2
end
flip
call b 1
from
back
hop 5 5
pace 9
by"""


def block_of(rows, name):
    """The numbers of a piece's rows, or, for None, of those outside of pieces."""
    inside, found = None, []
    for at, words in enumerate(rows):
        if words[0] == "piece":
            inside = words[1]
        elif words[0] == "end":
            inside = None
        elif inside == name:
            found.append(at)
    return found


class Written:
    """The texts of a program's states, put together from its words alone; the places are the road's."""

    def __init__(self, text):
        self.rows = [row.split() for row in text.split("\n")] if text else []
        self.mode, self.pace, self.side = "from", "0", "0"
        self.trail, self.put, self.texts = [], [[]], []
        self.places = [entry[0][1] for entry in road_of(text).entries()]
        self.places += [entry[0][2] for entry in road_of(text).entries()][-1:] or [O]
        self.block(None)
        self.write(f"{len(self.rows)}:0")

    def write(self, last):
        x, y = self.places[len(self.texts)]
        frames = ";".join(",".join(put) or "-" for put in self.put)
        self.texts.append(" ".join([",".join([*self.trail, last]), number_text(x) + "," + number_text(y), self.mode,
                                    self.pace, self.side, frames]))

    def block(self, name):
        for at in block_of(self.rows, name):
            words = self.rows[at]
            if words[0] == "call":
                for turn in range(int(words[2])):
                    self.trail.append(f"{at}:{turn}")
                    self.put.append([])
                    self.block(words[1])
                    self.put.pop()
                    self.trail.pop()
            elif words[0] in ("hop", "cut", "run", "left", "right"):
                self.write(f"{at}:0")
            elif words[0] in ("shift", "turn", "flip"):
                self.put[-1].append(":".join(words))
            elif words[0] == "back":
                self.put[-1].pop()
            elif words[0] in ("by", "from"):
                self.mode = words[0]
            elif words[0] == "pace":
                self.pace = words[1]
            else:
                self.side = words[1]


def values(state):
    return (state.trail, state.place, state.mode, state.pace, state.side, state.frames)


class StateTest(Telling):
    def test_the_six_values(self):
        state = State(((3, 1), (4, 0)), place(1, 2), "by", 5, (1, 2), ((("flip",),), ()))
        self.told(values(state), (((3, 1), (4, 0)), place(1, 2), "by", 5, (1, 2), ((("flip",),), ())))
        self.told(sorted(vars(state)), ["frames", "mode", "pace", "place", "side", "trail"])

    def test_text(self):
        for state, due in [
            (State(((0, 0),), O, "from", 0, NOUGHT, ((),)), "0:0 0,0 from 0 0 -"),
            (State(((3, 1), (4, 0)), place("-1/2", "7/3"), "by", 5, (-1, 2), ((("flip",),), ())),
             "3:1,4:0 -1/2,7/3 by 5 -1/2 flip;-"),
            (State(((7, 98), (12, 3), (40, 0)), place(GREATER, -GREAT), "from", 9, (9999, 1),
                   ((("shift", (1, 1), (-1, 2)), ("turn", -99, 99)), (), (("flip",), ("flip",), ("turn", 0, 1)))),
             f"7:98,12:3,40:0 {GREATER},-{GREAT} from 9 9999 shift:1:-1/2,turn:-99:99;-;flip,flip,turn:0:1"),
        ]:
            self.told(str(state), due)
            self.told(repr(state), f"State('{due}')")

    def test_alike(self):
        told = (((3, 1), (4, 0)), place(1, 2), "by", 5, (1, 2), ((("flip",),), ()))
        others = (((3, 2), (4, 0)), place(2, 1), "from", 6, (1, 3), ((), (("flip",),)))
        self.assertTrue(State(*told) == State(*told))
        self.assertFalse(State(*told) != State(*told))
        for at, other in enumerate(others):
            unlike = State(*told[:at], other, *told[at + 1:])
            self.assertFalse(State(*told) == unlike)
            self.assertTrue(State(*told) != unlike)

    def test_unlike_other_things(self):
        state = state_at(RICH, 0)
        for thing in [*OTHER_THINGS, str(state), repr(state), values(state), road_of(RICH), State]:
            self.assertFalse(state == thing)
            self.assertTrue(state != thing)

    def test_states_of_two_programs_alike(self):
        self.assertTrue(state_at("hop 1 1", 0) == state_at("hop 2 2\nby", 0))


class StateAtTest(Telling):
    def told_at(self, text, number, due):
        with self.subTest(text=text, number=number):
            state = state_at(text, number)
            self.assertIs(state.__class__, State)
            self.told(str(state), due)

    def test_few_rows(self):
        for text, due in [
            ("", ["0:0 0,0 from 0 0 -"]), ("by", ["1:0 0,0 by 0 0 -"]),
            ("hop 3 4", ["0:0 0,0 from 0 0 -", "1:0 3,4 from 0 0 -"]),
            ("hop 1/2 .\ncut 3 .", ["0:0 0,0 from 0 0 -", "1:0 1/2,0 from 0 0 -", "2:0 3,0 from 0 0 -"]),
            ("pace 4\nside -1/3\nby\nhop 1 1\npace 5\nside 2\nfrom",
             ["3:0 0,0 by 4 -1/3 -", "7:0 1,1 from 5 2 -"]),
            ("flip\nside 2\nhop 1 1", ["2:0 0,0 from 0 2 flip", "3:0 1,-1 from 0 2 flip"]),
            ("shift 1 1/2\nturn 1 2\nback\nflip\nhop 0 0",
             ["4:0 0,0 from 0 0 shift:1:1/2,flip", "5:0 1,1/2 from 0 0 shift:1:1/2,flip"]),
            ("piece a\nend", ["2:0 0,0 from 0 0 -"]),
        ]:
            for number, state in enumerate(due):
                self.told_at(text, number, state)

    def test_calls(self):
        text = "flip\ncall a 2\npiece a\nshift 1 0\ncall b 2\nback\nend\npiece b\nturn 1 1\nhop . .\nend\npace 3"
        for number, trail in enumerate(["1:0,4:0,9:0", "1:0,4:1,9:0", "1:1,4:0,9:0", "1:1,4:1,9:0"]):
            self.told_at(text, number, f"{trail} 0,0 from 0 0 flip;shift:1:0;turn:1:1")
        self.told_at(text, 4, "12:0 0,0 from 3 0 flip")

    def test_within_eight_calls(self):
        rows = ["call a 1"]
        for at in range(8):
            name, after = "abcdefghi"[at:at + 2]
            rows += [f"piece {name}", "flip", f"call {after} 1" if at < 7 else "hop 1 1", "back", "end"]
        trail = ",".join(["0:0"] + [f"{3 + 5 * at}:0" for at in range(8)])
        self.told_at("\n".join(rows), 0, f"{trail} 0,0 from 0 0 -" + ";flip" * 8)

    def test_values(self):
        self.told(values(state_at(RICH, 2)), (((2, 0), (16, 1), (7, 0)), state_at(RICH, 2).place, "by", 3, NOUGHT,
                                              ((("shift", (1, 1), (2, 1)),), (("shift", (-1, 1), (1, 3)), ("flip",)),
                                               (("flip",),))))
        end = state_at(RICH, len(road_of(RICH)))
        self.told((end.trail, end.mode, end.pace, end.side), (((28, 0),), "by", 9, (1, 2)))

    def test_ahead_of_each_step(self):
        for text in (RICH, "", "by\nhop 1 1", "call a 99\npiece a\nhop 1 1\nend"):
            for number, due in enumerate(Written(text).texts):
                self.told_at(text, number, due)

    def test_of_many_programs(self):
        chance = random.Random(13)
        runs = 0
        while runs < 250:
            text = made_up(chance)
            try:
                road = road_of(text)
            except MillError:
                continue
            runs += 1
            for number, due in enumerate(Written(text).texts):
                self.told_at(text, number, due)
                state = state_at(text, number)
                self.assertEqual(read_state(text, due), state)
                self.told(road_from(text, state).entries(), road.entries()[number:])
                self.told(str(state), due)

    def test_no_step(self):
        for text, many in [("", 0), ("hop 1 1", 1), ("by", 0), (RICH, len(road_of(RICH))), ("hop 1 1\nhop 2 2", 2)]:
            for number in (-1, -2, -many - 1, many + 1, many + 2, GREATER, -GREATER):
                self.refused(NoStep, {"number": number, "many": many}, state_at, text, number)

    def test_refused_as_the_road(self):
        for text in ("hop", "hop 1 1\n" * 90, "call a 1", "cut 1 1", "back", 5, None, "hop 1 1\npiece a",
                     "call a 1\npiece a\ncall a 1\nend", "call a 99\npiece a\ncall b 99\nend\npiece b\nby\nend",
                     "call a 99\npiece a\nhop 1 1\nhop 2 2\nend"):
            with self.assertRaises((MillError, NoPiece)) as caught:
                road_of(text)
            for number in (0, -1, 1, 200):
                self.refused(caught.exception.__class__, vars(caught.exception), state_at, text, number)

    def test_each_is_the_askers_own(self):
        state = state_at(RICH, 3)
        due = str(state)
        state.pace, state.trail, state.frames = 1, (), ()
        self.told(str(state_at(RICH, 3)), due)


class ReadStateTest(Telling):
    TEXT = "flip\ncall a 2\npiece a\nshift 1 0\ncall b 3\nback\nend\npiece b\nturn 1 1\nhop . .\npace 4\nend\nhop 3 3"
    GOOD = "1:1,4:2,9:0 3/2,-7 by 4 -1/2 flip;shift:1:0;turn:1:1"

    def read(self, text, row):
        with self.subTest(row[:200]):
            state = read_state(text, row)
            self.assertIs(state.__class__, State)
            self.told(str(state), row)
            self.assertEqual(state, State(*values(state)))

    def no_state(self, row, text=None):
        with self.subTest(str(row)[:200]):
            self.refused(NoState, {}, read_state, self.TEXT if text is None else text, row)

    def test_values(self):
        self.told(values(read_state(self.TEXT, self.GOOD)),
                  (((1, 1), (4, 2), (9, 0)), place("3/2", -7), "by", 4, (-1, 2),
                   ((("flip",),), (("shift", (1, 1), (0, 1)),), (("turn", 1, 1),))))

    def test_each_that_is_told(self):
        for text in (RICH, self.TEXT, "", "hop 1 1"):
            for number, row in enumerate(Written(text).texts):
                self.read(text, row)
                self.assertEqual(read_state(text, row), state_at(text, number))

    def test_such_as_the_program_never_has(self):
        for row in ["1:1,4:2,9:0 0,0 from 9 9999 -;-;-", "1:0,4:0,9:0 0,0 from 0 -9999/998 flip;-;-",
                    "12:0 5,5 by 1 0 flip,flip,turn:-99:99,shift:-9999/2:1/999,flip,flip,flip,flip",
                    "1:0,4:0,9:0 0,0 from 0 0 flip,flip,flip;turn:1:0,flip;flip,flip,turn:0:-1",
                    "13:0 1/3,1/4 by 9 1 flip", "13:0 0,0 from 0 0 -"]:
            self.read(self.TEXT, row)

    def test_a_place_of_any_size(self):
        for x, y in [(GREATER, -GREAT), ("1/" + str(GREATER), "-7/" + str(10 ** 300)), ("9" * 1900, "-" + "8" * 1900),
                     ("0", "1/10000"), ("10000", "-12345/67891")]:
            self.read(self.TEXT, f"12:0 {x},{y} from 0 0 -")

    def test_a_place_that_was_told_with_great_numbers(self):
        text = "hop 3 4\nfrom\n" + "\n".join(["left 0 0 97 98\nleft 0 0 95 98"] * 20)
        row = str(state_at(text, 40))
        self.assertGreater(len(row), 300)
        self.read(text, row)
        self.told(road_from(text, read_state(text, row)).entries(), road_of(text).entries()[40:])

    def test_the_number_of_parts(self):
        parts = self.GOOD.split(" ")
        for at in range(6):
            self.no_state(" ".join(parts[:at] + parts[at + 1:]))
            self.no_state(" ".join(parts[:at] + [""] + parts[at + 1:]))
            self.no_state(" ".join(parts[:at] + [parts[at]] + parts[at:]))
            self.no_state(" ".join(parts[:at] + [""] + parts[at:]))
        for row in ["", " ", "     ", self.GOOD + " ", " " + self.GOOD, self.GOOD + " 0", self.GOOD + "\n",
                    "\n" + self.GOOD, self.GOOD.replace(" ", "\n"), self.GOOD.replace(" ", "\n", 1),
                    self.GOOD.replace(" by", "  by"), self.GOOD + "\n" + self.GOOD]:
            self.no_state(row)

    def test_any_thing(self):
        for thing in [*OTHER_THINGS, ((1, 1), (4, 2)), [self.GOOD], (self.GOOD,), self.GOOD.split(" "),
                      tuple(self.GOOD.split(" ")), "9" * 4000, " " * 4000, "1:" * 2000, ",;:- " * 800,
                      "1:1," * 900 + self.GOOD, "12:0 " + "1/" * 1900 + ",0 from 0 0 -", State]:
            self.no_state(thing)

    def swapped(self, at, texts):
        parts = self.GOOD.split(" ")
        for text in texts:
            self.no_state(" ".join(parts[:at] + [text] + parts[at + 1:]))

    def test_trails(self):
        self.swapped(0, [
            "-", "1", "9", "1:1", "4:2", "1:1,4:2", "9:0", "4:2,9:0", "1:1,9:0", "1:1,4:2,9:0,9:0",
            # Rows that are none of the program's, or of another place.
            "99:0", "14:0", "-1:0", "1:1,4:2,13:0", "1:1,4:2,14:0", "1:1,4:2,12:0", "1:1,12:0,9:0", "12:0,4:2,9:0",
            "12:0,12:0,12:0", "1:1,1:1,9:0", "4:1,4:2,9:0", "1:1,4:2,4:0", "1:1,4:2,3:0", "0:0,4:2,9:0", "2:1,4:2,9:0",
            # Calls that are none, steps that are none.
            "1:1,3:2,9:0", "1:1,5:0,9:0", "1:1,4:2,8:0", "1:1,4:2,10:0", "1:1,4:2,7:0", "1:1,4:2,11:0", "0:0,4:2,8:0",
            # Turns that aren't below N, or 0.
            "1:2,4:2,9:0", "1:1,4:3,9:0", "1:99,4:2,9:0", "1:1,4:2,9:1", "1:1,4:2,9:-1", "1:-1,4:2,9:0",
            "1:1,4:2,9:0,", ",1:1,4:2,9:0", "1:1,,4:2,9:0", "1:1,4:2:0,9:0", "1:1;4:2,9:0", "1:1,4:2,9", "1:1,4:2,9:",
            "1:1,4:2,:0", "01:1,4:2,9:0", "1:01,4:2,9:0", "1:1,4:2,09:0", "1:1,4:2,9:00", "1:1,4:2,9:-0",
            "+1:1,4:2,9:0",
            "1:1,4:4/2,9:0", "1/1:1,4:2,9:0", "1:1,4:2,9:0/1", "1:1,4:2,9.0", "1:1,4:1/2,9:0", "a:1,4:2,9:0", "(1,1)",
            "1:1,4:2,13:0", "13:0,4:2,9:0", "13:1", "9" * 300 + ":0", "1:1,4:2,9:" + "0" * 50,
        ])

    def test_trails_for_one(self):
        for trail in ["0:0", "1:0", "2:0", "4:0", "9:0", "11:0", "12:1", "13:1", "14:0", "-1:0", "80:0", "13:-1"]:
            self.no_state(f"{trail} 0,0 from 0 0 -")
        self.read(self.TEXT, "12:0 0,0 from 0 0 -")
        self.read(self.TEXT, "13:0 0,0 from 0 0 -")
        self.no_state("0:0,0:0 0,0 from 0 0 -;-", "")
        self.no_state("1:0 0,0 from 0 0 -", "")
        self.read("", "0:0 0,0 from 0 0 -")

    def test_the_end_beside_others(self):
        for trail in ["1:0,13:0", "13:0,13:0", "13:0,12:0", "1:0,4:0,13:0", "12:0,13:0"]:
            self.no_state(f"{trail} 0,0 from 0 0 {';'.join('-' for _ in trail.split(','))}")

    def test_trails_of_nine_and_of_ten(self):
        text = "call a 1\npiece a\ncall a 1\nhop 1 1\nend"
        for many in range(1, 9):
            self.read(text, "0:0" + ",2:0" * (many - 1) + ",3:0 0,0 from 0 0 -" + ";-" * many)
        for many in (9, 10, 50):
            self.no_state("0:0" + ",2:0" * (many - 1) + ",3:0 0,0 from 0 0 -" + ";-" * many, text)

    def test_places(self):
        self.swapped(1, ["0", "0,", ",0", ",", "0,0,0", "0;0", "1/1,0", "0,2/4", "-0,0", "00,0", "0,01", "0/1,0",
                         "1/0,0",
                         "0,1/-2", "1.5,0", ".,0", "0,.", "+1,0", "a,0", "--1,0", "0,1/02", "0,1/2/3", "1 ,0", "(0,0)",
                         "-,0", "0,-", "1/,0", "/2,0", "0,0/5", "1_0,0", "6/4,0", "1e3,0"])

    def test_modes_and_paces(self):
        self.swapped(2, ["", "By", "from,", "b", "fromby", "-", "0", "none", "by:"])
        self.swapped(3, ["", "10", "-1", "00", "04", "4/1", "1/2", ".", "a", "99", "-0", "+4", "9" * 100])

    def test_sides(self):
        self.swapped(4, ["", "10000", "-10000", "1/1000", "-0", "2/4", "1/1", ".", "a", "01", "0/2", "+1", "1/0",
                         "9" * 99,
                         "1,1", "--1"])

    def test_frames(self):
        self.swapped(5, [
            "", "-", "-;-", "-;-;-;-", "-;-;", ";-;-", "-;;-", "--;-;-", "-,-;-;-", "flip,-;-;-", "-,flip;-;-",
            "flip,;-;-",
            ",flip;-;-", "flip:;-;-", "flip:1;-;-", ":flip;-;-", "Flip;-;-", "flip flip;-;-", "flipflip;-;-",
            "shift;-;-", "shift:1;-;-", "shift:1:2:3;-;-", "shift:.:1;-;-", "shift:1:10000;-;-", "shift:1/1000:1;-;-",
            "shift:2/4:1;-;-", "shift:-0:1;-;-", "shift:1:01;-;-", "shift::1;-;-", "shift,1,1;-;-", "shift:1:1:;-;-",
            "turn:0:0;-;-", "turn:100:1;-;-", "turn:1:-100;-;-", "turn:1/2:1;-;-", "turn:1;-;-", "turn:1:1:1;-;-",
            "turn:.:1;-;-", "turn:01:1;-;-", "back;-;-", "by;-;-", "pace:3;-;-", "side:1;-;-", "hop:1:1;-;-", "end;-;-",
            "piece:a;-;-", "call:a:1;-;-", "run:1:1:1;-;-", ".;-;-", "flip.-;-", "flip|-;-;-",
        ])

    def test_more_than_eight_frames(self):
        self.read(self.TEXT, "1:0,4:0,9:0 0,0 from 0 0 " + "flip,flip,flip;flip,flip,flip;flip,flip")
        self.no_state("1:0,4:0,9:0 0,0 from 0 0 " + "flip,flip,flip;flip,flip,flip;flip,flip,flip")
        self.read(self.TEXT, "12:0 0,0 from 0 0 " + ",".join(["flip"] * 8))
        for many in (9, 10, 100):
            self.no_state("12:0 0,0 from 0 0 " + ",".join(["flip"] * many))

    def test_a_state_of_another_program(self):
        self.read(self.TEXT, self.GOOD)
        for text in ("", "hop 1 1", self.TEXT.replace("call b 3", "call b 2"), "by\n" + self.TEXT,
                     self.TEXT.replace("hop . .", "by"), self.TEXT.replace("call a 2", "hop 1 1")):
            self.no_state(self.GOOD, text)

    def test_programs_that_read_badly(self):
        for row in (self.GOOD, "", None, "0:0 0,0 from 0 0 -"):
            self.refused(NoText, {"at": 0}, read_state, "hopp", row)
            self.refused(NoText, {"at": 0}, read_state, None, row)
            self.refused(NoText, {"at": 1}, read_state, "piece a", row)
            self.refused(TooMany, {"most": 80}, read_state, "by\n" * 80, row)
            self.refused(NoPiece, {"name": "a"}, read_state, "call a 1", row)

    def test_programs_whose_road_is_refused(self):
        for text, row in [("cut 1 1\nhop 2 2", "1:0 0,0 from 0 0 -"), ("back\nhop 1 1", "1:0 0,0 from 0 0 -"),
                          ("call a 1\npiece a\ncall a 1\nhop 1 1\nend", "0:0,3:0 1,1 by 0 0 -;-"),
                          ("cut 1 1", "1:0 0,0 from 0 0 -")]:
            self.read(text, row)

    def test_other_signs(self):
        """Whatever is read is written just so."""
        chance = random.Random(5)
        signs = "0123456789:,;-/ abflipshturn." * 2 + "".join(map(chr, range(32, 127))).replace(chr(37), "") + "\n"
        read = 0
        for _ in range(6000):
            row = list(self.GOOD)
            for _ in range(chance.randrange(1, 4)):
                at = chance.randrange(len(row))
                kind = chance.randrange(3)
                if kind == 0:
                    row[at] = chance.choice(signs)
                elif kind == 1:
                    row.insert(at, chance.choice(signs))
                else:
                    del row[at]
            row = "".join(row)
            try:
                state = read_state(self.TEXT, row)
            except NoState:
                continue
            read += 1
            self.told(str(state), row)
        self.assertGreater(read, 100)


class RoadFromTest(Telling):
    def test_from_each_state(self):
        for text in (RICH, ReadStateTest.TEXT, "", "hop 1 1", "by\nflip"):
            road = road_of(text)
            for number in range(len(road) + 1):
                with self.subTest(text=text, number=number):
                    rest = road_from(text, state_at(text, number))
                    self.assertIs(rest.__class__, Road)
                    self.told(rest.entries(), road.entries()[number:])
                    self.assertEqual(rest, Road(road.entries()[number:]))

    def test_from_the_end(self):
        for text in (RICH, "", "by", "hop 1 1\nflip"):
            self.assertEqual(road_from(text, state_at(text, len(road_of(text)))), Road([]))

    def test_from_a_state_that_the_program_never_has(self):
        text = "call a 2\npiece a\nby\nhop 1 0\nback\nend\nhop 0 1"
        self.refused(NoFrame, {"row": 4}, road_of, text)
        state = State(((0, 1), (3, 0)), place(7, 7), "from", 4, (1, 2), ((("flip",),), (("shift", (1, 1), (1, 1)),)))
        self.told(road_from(text, state).entries(), [
            (("hop", place(7, 7), place(2, -1)), 4, (-1, 2), ((0, 1), (3, 0))),
            (("hop", place(2, -1), place(0, -1)), 4, (-1, 2), ((6, 0),)),
        ])

    def test_a_program_that_is_refused_from_its_start(self):
        text = "cut 1 1\nhop 2 2\ncut 5 6"
        self.refused(Uneven, {"row": 0}, road_of, text)
        state = State(((1, 0),), O, "from", 0, NOUGHT, ((),))
        self.told(road_from(text, state).entries(), [
            (("hop", O, place(2, 2)), 0, NOUGHT, ((1, 0),)),
            (("line", place(2, 2), place(5, 6)), 0, NOUGHT, ((2, 0),)),
        ])

    def test_rows_are_counted_anew(self):
        text = "call a 99\npiece a\n" + "by\n" * 21 + "hop 0 0\nend"
        # 1 + 99 * 22 rows are too many, but 22 fewer than 2000 behind a later turn are not.
        self.refused(TooMany, {"most": 2000}, road_of, text)
        at = 23
        # From the step's row on: 1 row, then 22 for each turn.
        for turn, steps in [(98, 1), (50, 49), (9, 90)]:
            state = State(((0, turn), (at, 0)), O, "by", 0, NOUGHT, ((), ()))
            self.assertEqual(len(road_from(text, state)), steps)
        # 1 + 90 * 22 = 1981 rows and 1 + 91 * 22 = 2003.
        self.assertEqual(len(road_from(text, State(((0, 8), (at, 0)), O, "by", 0, NOUGHT, ((), ())))), 91)
        self.refused(TooMany, {"most": 2000}, road_from, text, State(((0, 7), (at, 0)), O, "by", 0, NOUGHT, ((), ())))

    def test_just_as_many_rows_as_may_be(self):
        text = "call a 40\npiece a\nhop 0 0\n" + "by\n" * 49 + "end\nby"
        first = State(((0, 0), (2, 0)), O, "by", 0, NOUGHT, ((), ()))
        # 40 turns of 50 rows are 2000: one more is too many; the call itself isn't done anew.
        self.refused(TooMany, {"most": 2000}, road_from, text, first)
        self.assertEqual(len(road_from(text[:-3], first)), 40)
        self.refused(TooMany, {"most": 2000}, road_of, text[:-3])

    def test_steps_are_counted_anew(self):
        text = "call a 99\npiece a\nhop 1 1\nhop 2 2\nend"
        self.refused(TooMany, {"most": 100}, road_of, text)
        for turn, row, steps in [(49, 2, 100), (49, 3, 99), (98, 3, 1)]:
            state = State(((0, turn), (row, 0)), O, "from", 0, NOUGHT, ((), ()))
            self.assertEqual(len(road_from(text, state)), steps)
        self.refused(TooMany, {"most": 100}, road_from, text, State(((0, 48), (3, 0)), O, "from", 0, NOUGHT, ((), ())))

    def test_refusals_with_the_rows_number(self):
        one = State(((1, 0),), O, "from", 0, NOUGHT, ((),))
        self.refused(Uneven, {"row": 1}, road_from, "by\ncut 1 1", one)
        self.refused(Uneven, {"row": 3}, road_from, "by\nhop 1 1\nby\nleft 1 1 1 1", one)
        self.refused(NoFrame, {"row": 2}, road_from, "by\nhop 1 1\nback", one)
        full = State(((1, 0),), O, "from", 0, NOUGHT, ((("flip",),) * 8,))
        self.refused(NoFrame, {"row": 2}, road_from, "by\nhop 1 1\nflip", full)
        self.assertEqual(len(road_from("by\nhop 1 1\nback\nflip", full)), 1)

    def test_back_within_its_own_turn(self):
        text = "shift 1 1\ncall a 1\npiece a\nhop 0 0\nback\nend"
        state = State(((1, 0), (3, 0)), O, "from", 0, NOUGHT, ((("shift", (1, 1), (1, 1)),), ()))
        self.refused(NoFrame, {"row": 4}, road_from, text, state)
        held = State(((1, 0), (3, 0)), O, "from", 0, NOUGHT, ((), (("flip",),)))
        self.assertEqual(len(road_from(text, held)), 1)

    def test_too_deep(self):
        text = "call a 1\npiece a\nhop 1 1\ncall a 1\nend"
        self.refused(TooDeep, {"row": 3}, road_of, text)
        for many in range(1, 9):
            trail = ((0, 0), *(((3, 0),) * (many - 1)), (2, 0))
            state = State(trail, O, "from", 0, NOUGHT, ((),) * (many + 1))
            self.refused(TooDeep, {"row": 3}, road_from, text, state)

    def test_programs_that_read_badly(self):
        state = State((), O, "from", 0, NOUGHT, ())
        self.refused(NoText, {"at": 1}, road_from, "by\nbad", state)
        self.refused(TooMany, {"most": 80}, road_from, "by\n" * 80, state)
        self.refused(NoPiece, {"name": "z"}, road_from, "call z 1", state)

    def test_states_that_are_none_of_the_programs(self):
        text = ReadStateTest.TEXT
        good = values(read_state(text, ReadStateTest.GOOD))
        self.assertEqual(len(road_from(text, State(*good))), 2)
        for trail in [(), ((1, 1),), ((1, 1), (4, 2)), ((1, 1), (4, 2), (9, 1)), ((1, 2), (4, 2), (9, 0)),
                      ((1, 1), (4, 3), (9, 0)), ((1, -1), (4, 2), (9, 0)), ((1, 1), (4, 2), (8, 0)),
                      ((1, 1), (4, 2), (13, 0)), ((13, 0), (4, 2), (9, 0)), ((-1, 0), (4, 2), (9, 0)),
                      ((1, 1), (4, 2), (9, 0), (9, 0)), ((1, 1), (4, 2), (-5, 0)), ((GREATER, 0),),
                      ((1, 1),) + ((4, 2),) * 8 + ((9, 0),)]:
            for frames in (good[5], ((),) * len(trail)):
                self.refused(NoState, {}, road_from, text, State(trail, *good[1:5], frames))
        for frames in [(), ((),), ((), ()), ((), (), (), ()), ((("flip",),) * 9, (), ()),
                       ((("flip",),) * 3, (("turn", 1, 1),) * 3, (("flip",),) * 3)]:
            self.refused(NoState, {}, road_from, text, State(*good[:5], frames))
        for trail in [((13, 1),), ((14, 0),), ((12, 1),), ((0, 0),), ((13, 0), (13, 0))]:
            self.refused(NoState, {}, road_from, text, State(trail, *good[1:5], ((),) * len(trail)))

    def test_a_state_of_another_program(self):
        self.refused(NoState, {}, road_from, "hop 1 1", state_at("by\nby\nhop 1 1", 0))
        self.assertEqual(len(road_from("hop 1 1", state_at("by\nhop 1 1", 0))), 0)
        self.refused(NoState, {}, road_from, "by\nhop 1 1", state_at("hop 1 1", 0))
        self.assertEqual(len(road_from("hop 1 1\nhop 2 2", state_at("hop 5 5\nby", 0))), 2)

    def test_the_state_isnt_changed(self):
        for number in range(len(road_of(RICH)) + 1):
            state = state_at(RICH, number)
            due = repr(values(state))
            first = road_from(RICH, state)
            self.told(repr(values(state)), due)
            self.assertEqual(road_from(RICH, state), first)
            state.frames, state.trail = (), ()
            self.told(first.entries(), road_of(RICH).entries()[number:])

    def test_two_roads_lists(self):
        road = road_from(RICH, state_at(RICH, 2))
        road.entries().clear()
        self.told(road.entries(), road_of(RICH).entries()[2:])


if __name__ == "__main__":
    unittest.main()
