"""Programs: texts of rows, read to tuples and written back."""

from toolroad.amounts import is_below, is_number, number_text
from toolroad.errors import NoPiece, NoText, TooMany

MOST_ROWS = 80
FIGURES = "0123456789"
LETTERS = "abcdefghijklmnopqrstuvwxyz"


def is_made_of(signs, text, most):
    """Whether a text has one to so many signs, all of these."""
    return 1 <= len(text) <= most and all([sign in signs for sign in text])


def is_plain(figures, most):
    """Whether a text has one to so many figures, without a nought ahead."""
    return is_made_of(FIGURES, figures, most) and (figures == "0" or figures[0] != "0")


def whole_in(figures):
    """The whole number that figures tell."""
    # Figure by figure, since Python's int refuses a text of too many.
    told = 0
    for figure in figures:
        told = 10 * told + int(figure)
    return told


# Each reader tells a list of the one thing that the word is read as, an empty one where it is none such.


def read_number_within(word, above, below):
    """A number of at most so many figures above and below."""
    top, stroke, bottom = word.partition("/")
    figures = top.removeprefix("-")
    if top == "-0" or bottom == "1" or not is_plain(figures, above):
        return []
    if stroke and not is_plain(bottom, below):
        return []
    told = (whole_in(figures), whole_in(bottom) if stroke else 1)
    if not is_number(told):
        return []
    return [(-told[0], told[1]) if top.startswith("-") else told]


def read_number(word):
    """A number of a row."""
    return read_number_within(word, 4, 3)


def read_coordinate(word):
    """A number, or None for a dot."""
    return [None] if word == "." else read_number(word)


def read_length(word):
    """A number above 0."""
    return [told for told in read_number(word) if is_below((0, 1), told)]


def read_whole(word, least, most):
    """A whole number within these bounds."""
    return [top for top, bottom in read_number(word) if bottom == 1 and least <= top <= most]


def read_part(word):
    """One of the two whole numbers that tell a heading."""
    return read_whole(word, -99, 99)


def read_pace(word):
    """A pace."""
    return read_whole(word, 0, 9)


def read_turns(word):
    """How often a piece is called."""
    return read_whole(word, 1, 99)


def read_name(word):
    """A piece's name."""
    return [word] if is_made_of(LETTERS, word, 8) else []


READERS = {
    "X": read_coordinate, "Y": read_coordinate, "L": read_length, "R": read_number, "A": read_number, "B": read_number,
    "P": read_part, "Q": read_part, "PACE": read_pace, "TURNS": read_turns, "NAME": read_name,
}
SHAPES = {
    "hop": ("X", "Y"), "cut": ("X", "Y"), "run": ("P", "Q", "L"),
    "left": ("X", "Y", "P", "Q"), "right": ("X", "Y", "P", "Q"),
    "by": (), "from": (), "pace": ("PACE",), "side": ("R",),
    "shift": ("A", "B"), "turn": ("P", "Q"), "flip": (), "back": (),
    "piece": ("NAME",), "end": (), "call": ("NAME", "TURNS"),
}


def values_of(shape, words):
    """What the words tell, but for those that are not of the shape."""
    values = []
    for kind, word in zip(shape, words):
        reader = READERS[kind]
        values.extend(reader(word))
    return values


def is_aimless(shape, values):
    """Whether P and Q are among the values and both 0."""
    if "P" not in shape:
        return False
    at = shape.index("P")
    return values[at] == 0 and values[at + 1] == 0


def row_of(text):
    """The row that a text tells, None where it tells none."""
    word, *words = text.split(" ")
    if word not in SHAPES:
        return None
    shape = SHAPES[word]
    values = values_of(shape, words)
    if len(words) != len(shape) or len(values) != len(shape) or is_aimless(shape, values):
        return None
    return (word, *values)


def is_misplaced(row, names, within):
    """Whether a row opens or ends a piece where it may not, behind pieces of these names, within one or not."""
    if row[0] == "piece":
        return within or row[1] in names
    return row[0] == "end" and not within


def look_through(rows):
    """Refuse the first row that is none or stands where it may not; None stands for a row that is none."""
    names = {}
    within = False
    for at, row in enumerate(rows):
        if row is None or is_misplaced(row, names, within):
            raise NoText(at)
        if row[0] == "piece":
            names[row[1]] = True
            within = True
        elif row[0] == "end":
            within = False
    if within:
        raise NoText(len(rows))


def blocks_of(rows):
    """The numbers of a program's rows: under None those outside of pieces, under each piece's name its own."""
    blocks = {None: []}
    name = None
    for at, row in enumerate(rows):
        if row[0] == "piece":
            name = row[1]
            blocks[name] = []
        elif row[0] == "end":
            name = None
        else:
            blocks[name].append(at)
    return blocks


def read_program(text):
    """The program of a text, as a tuple of rows."""
    if not isinstance(text, str):
        raise NoText(0)
    texts = text.split("\n") if text else []
    if len(texts) > MOST_ROWS:
        raise TooMany(MOST_ROWS)
    rows = [row_of(one) for one in texts]
    look_through(rows)
    blocks = blocks_of(rows)
    for row in rows:
        if row[0] == "call" and row[1] not in blocks:
            raise NoPiece(row[1])
    return tuple(rows)


def word_of(value):
    """A row's word or value as it is written."""
    if value is None:
        return "."
    if isinstance(value, tuple):
        return number_text(value)
    return str(value)


def program_text(rows):
    """The text of a program that was read."""
    return "\n".join([" ".join([word_of(value) for value in row]) for row in rows])
