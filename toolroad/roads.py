"""Roads: the steps that a program's rows make, done one behind another, piece by piece."""

from toolroad.amounts import opposite, times
from toolroad.errors import NoFrame, TooDeep, TooMany, Uneven
from toolroad.frames import MOST_FRAMES, is_about, led_direction, led_from, led_place
from toolroad.places import NOUGHT, ORIGIN, added, difference, heading_of, scaled, turned
from toolroad.rows import blocks_of, read_program
from toolroad.steps import is_step

MOST_DONE = 2000
MOST_STEPS = 100
MOST_CALLS = 8
STEP_WORDS = ("hop", "cut", "run", "left", "right")
FRAME_WORDS = ("shift", "turn", "flip")


class Road:
    """A road of entries (step, pace, side, trail)."""

    def __init__(self, entries):
        self.kept = list(entries)

    def entries(self):
        """The entries, in a list of the asker's own."""
        return list(self.kept)

    def __len__(self):
        return len(self.kept)

    def __eq__(self, other):
        return isinstance(other, Road) and self.kept == other.kept

    def __repr__(self):
        return f"Road({len(self.kept)})"


def filled(x, y, other):
    """The place of x and y, taken from another place where they are None."""
    return (other[0] if x is None else x, other[1] if y is None else y)


def place_of(x, y, place, mode, frames):
    """Where a row's X and Y are, None for a dot, with the tool at a place."""
    if mode == "by":
        return added(place, led_direction(frames, filled(x, y, ORIGIN)))
    return led_place(frames, filled(x, y, led_from(frames, place)))


def run_of(row, place, frames):
    """The line of a row with the word run."""
    heading = led_direction(frames, heading_of(row[1], row[2]))
    return ("line", place, added(place, scaled(heading, row[3])))


def arc_of(row, begin, centre, frames):
    """The arc of a row with the word left or right."""
    way = 1 if (row[0] == "left") != is_about(frames) else -1
    c, s = heading_of(row[3], row[4])
    out = turned(difference(centre, begin), (c, times((way, 1), s)))
    return ("arc", begin, added(out, centre), centre, way)


def step_of(row, place, mode, frames):
    """The step that a row makes from a place; where a distance is no number above 0, it is none."""
    if row[0] == "run":
        return run_of(row, place, frames)
    told = place_of(row[1], row[2], place, mode, frames)
    if row[0] == "hop":
        return ("hop", place, told)
    if row[0] == "cut":
        return ("line", place, told)
    return arc_of(row, place, told, frames)


class Running:
    """A program while it is run: what stands just now, the entries that were made, and what stood ahead of each."""

    def __init__(self, rows):
        self.rows = rows
        self.blocks = blocks_of(rows)
        self.place = ORIGIN
        self.mode = "from"
        self.pace = 0
        self.side = NOUGHT
        self.calls = []
        # One list for the rows outside of pieces and one for each call, so that back stays within its turn.
        self.frames_put = [[]]
        self.rows_done = 0
        self.made = []
        self.stood = []

    def standing(self, trail):
        """What a state keeps: (trail, place, mode, pace, side, frames)."""
        frames = tuple([tuple(put) for put in self.frames_put])
        return (trail, self.place, self.mode, self.pace, self.side, frames)

    def all_frames(self):
        """All frames that there are, as a tuple."""
        return tuple([frame for put in self.frames_put for frame in put])

    def do_block(self, name):
        """Do the rows of a piece, or, for None, those outside of pieces."""
        for at in self.blocks[name]:
            self.do_row(at)

    def do_row(self, at):
        """Do the row of this number."""
        if self.rows_done == MOST_DONE:
            raise TooMany(MOST_DONE)
        self.rows_done += 1
        row = self.rows[at]
        if row[0] in STEP_WORDS:
            self.make_step(at, row)
        elif row[0] in FRAME_WORDS:
            self.put_frame(at, row)
        elif row[0] == "back":
            self.take_frame(at)
        elif row[0] == "call":
            self.do_call(at, row)
        else:
            self.set_by(row)

    def make_step(self, at, row):
        """Go a step further."""
        if len(self.made) == MOST_STEPS:
            raise TooMany(MOST_STEPS)
        frames = self.all_frames()
        step = step_of(row, self.place, self.mode, frames)
        if not is_step(step):
            raise Uneven(at)
        trail = (*self.calls, (at, 0))
        side = opposite(self.side) if is_about(frames) else self.side
        self.stood.append(self.standing(trail))
        self.made.append((step, self.pace, side, trail))
        self.place = step[2]

    def put_frame(self, at, row):
        """Put a frame behind those that there are."""
        if len(self.all_frames()) == MOST_FRAMES:
            raise NoFrame(at)
        self.frames_put[-1].append(row)

    def take_frame(self, at):
        """Take away the last frame that was put in this turn."""
        if not self.frames_put[-1]:
            raise NoFrame(at)
        self.frames_put[-1].pop()

    def do_call(self, at, row):
        """Do a piece turn by turn."""
        if len(self.calls) == MOST_CALLS:
            raise TooDeep(at)
        self.do_turns(at, row, 0)

    def do_turns(self, at, row, first):
        """Do a call's turns from the first one that is told."""
        for turn in range(first, row[2]):
            self.begin_turn((at, turn), ())
            self.do_block(row[1])
            self.end_turn()

    def begin_turn(self, call, frames):
        """Go within a call, a tuple (row, turn), where these frames are put in that turn."""
        self.calls.append(call)
        self.frames_put.append(list(frames))

    def end_turn(self):
        """Go out of the call; what its turn put goes with it."""
        self.frames_put.pop()
        self.calls.pop()

    def go_on_from(self, state):
        """Do all that is left where a state stands."""
        self.place = state.place
        self.mode = state.mode
        self.pace = state.pace
        self.side = state.side
        self.frames_put = [list(state.frames[0])]
        # The program's end has a number that no row has.
        if state.trail[0][0] < len(self.rows):
            self.do_rest(None, state.trail, state.frames)

    def do_rest(self, name, trail, frames):
        """Do what is left of a block, with the trail and the frames of a state from this block's own on."""
        block = self.blocks[name]
        at, turn = trail[0]
        first = block.index(at)
        if len(trail) > 1:
            row = self.rows[at]
            self.begin_turn((at, turn), frames[1])
            self.do_rest(row[1], trail[1:], frames[1:])
            self.end_turn()
            self.do_turns(at, row, turn + 1)
            first += 1
        for left_at in block[first:]:
            self.do_row(left_at)

    def set_by(self, row):
        """Set the pace, the side or the mode."""
        if row[0] == "pace":
            self.pace = row[1]
        elif row[0] == "side":
            self.side = row[1]
        else:
            self.mode = row[0]


def run_program(text):
    """A program's Running, when all is done."""
    running = Running(read_program(text))
    running.do_block(None)
    running.stood.append(running.standing(((len(running.rows), 0),)))
    return running


def road_of(text):
    """The road of a program."""
    return Road(run_program(text).made)
