"""States: what is kept just ahead of a step's row, as one row of text, from which the rest of a program is run."""

from toolroad.amounts import number_text
from toolroad.errors import NoState, NoStep
from toolroad.frames import MOST_FRAMES
from toolroad.places import place_text
from toolroad.roads import FRAME_WORDS, MOST_CALLS, STEP_WORDS, Road, Running, run_program
from toolroad.rows import blocks_of, read_number, read_number_within, read_pace, read_program, row_of, word_of


class State:
    """What is kept just ahead of a step, or at a program's end."""

    def __init__(self, trail, place, mode, pace, side, frames):
        self.trail = trail
        self.place = place
        self.mode = mode
        self.pace = pace
        self.side = side
        self.frames = frames

    def __eq__(self, other):
        return (isinstance(other, State) and self.trail == other.trail and self.place == other.place
                and self.mode == other.mode and self.pace == other.pace and self.side == other.side
                and self.frames == other.frames)

    def __str__(self):
        return " ".join([trail_text(self.trail), place_text(self.place), self.mode, str(self.pace),
                         number_text(self.side), frames_text(self.frames)])

    def __repr__(self):
        return f"State({str(self)!r})"


def trail_text(trail):
    """The text of a trail."""
    return ",".join([f"{row}:{turn}" for row, turn in trail])


def frame_text(frame):
    """The text of one frame."""
    return ":".join([word_of(value) for value in frame])


def frames_text(frames):
    """The text of a state's frames."""
    return ";".join([",".join([frame_text(frame) for frame in put]) or "-" for put in frames])


# Each reader tells a list of the one thing that the text is read as, an empty one where it is none such.


def read_each(reader, texts):
    """A tuple of what each text is read as."""
    told = []
    for text in texts:
        told.extend(reader(text))
    return [tuple(told)] if len(told) == len(texts) else []


def read_any_number(text):
    """A number of any size."""
    return read_number_within(text, len(text), len(text))


def read_count(text):
    """A whole number from 0 on."""
    return [top for top, bottom in read_any_number(text) if bottom == 1 and top >= 0]


def read_turn(text):
    """A row and its turn."""
    parts = text.split(":")
    return read_each(read_count, parts) if len(parts) == 2 else []


def read_trail(text):
    """A trail."""
    return read_each(read_turn, text.split(","))


def read_place(text):
    """A place."""
    parts = text.split(",")
    return read_each(read_any_number, parts) if len(parts) == 2 else []


def read_mode(text):
    """A mode."""
    return [text] if text in ("from", "by") else []


def read_frame(text):
    """A frame: it is written as its row, but for the signs between the words."""
    row = row_of(text.replace(":", " "))
    return [row] if row is not None and row[0] in FRAME_WORDS else []


def read_put(text):
    """The frames that were put in one turn."""
    return [()] if text == "-" else read_each(read_frame, text.split(","))


def read_frames(text):
    """A state's frames."""
    return read_each(read_put, text.split(";"))


def values_in(row):
    """The six values of the state that a thing writes, fewer where it writes none."""
    parts = row.split(" ") if isinstance(row, str) else []
    if len(parts) != 6:
        return []
    trail, place, mode, pace, side, frames = parts
    return (read_trail(trail) + read_place(place) + read_mode(mode) + read_pace(pace) + read_number(side)
            + read_frames(frames))


def leads_to_step(rows, trail):
    """Whether a trail leads through calls to a step of the program."""
    blocks = blocks_of(rows)
    name = None
    for at, turn in trail[:-1]:
        if at not in blocks[name] or rows[at][0] != "call" or turn >= rows[at][2]:
            return False
        name = rows[at][1]
    at, turn = trail[-1]
    return at in blocks[name] and rows[at][0] in STEP_WORDS and turn == 0


def is_of(rows, trail, frames):
    """Whether a trail and frames are those of a state of the program."""
    if len(trail) > MOST_CALLS + 1 or len(frames) != len(trail):
        return False
    if sum([len(put) for put in frames]) > MOST_FRAMES:
        return False
    return trail == ((len(rows), 0),) or leads_to_step(rows, trail)


def state_in(rows, row):
    """The program's state that a thing writes."""
    values = values_in(row)
    if len(values) != 6:
        raise NoState("this writes no state")
    if not is_of(rows, values[0], values[5]):
        raise NoState("this is no state of the program")
    return State(*values)


def state_at(text, number):
    """The state ahead of a road's step, or, by the number behind the last one, at its end."""
    stood = run_program(text).stood
    many = len(stood) - 1
    if number < 0 or number > many:
        raise NoStep(number, many)
    values = stood[number]
    return State(*values)


def read_state(text, row):
    """The state of a program that a row of text writes."""
    return state_in(read_program(text), row)


def road_from(text, state):
    """The rest of a program's road, from a state on."""
    rows = read_program(text)
    # By its text a state that was put together by hand is held to all that holds of one that is read.
    held = state_in(rows, str(state))
    running = Running(rows)
    running.go_on_from(held)
    return Road(running.made)
