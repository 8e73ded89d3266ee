"""Many programs, run once more in another way: by fractions, with one table of six for all frames together."""

import math
import random
import unittest
from fractions import Fraction

from toolroad.errors import NoFrame, TooDeep, TooMany, Uneven
from toolroad.roads import road_of
from toolroad.rows import program_text, read_program
from telling import Telling, number, place

# x and y are led to (a x + b y + e, c x + d y + f) by (a, b, c, d, e, f).
ALIKE = tuple(map(Fraction, (1, 0, 0, 1, 0, 0)))


def table_of(words):
    if words[0] == "flip":
        return (1, 0, 0, -1, 0, 0)
    if words[0] == "shift":
        return (1, 0, 0, 1, Fraction(words[1]), Fraction(words[2]))
    c, s = angle(words[1], words[2])
    return (c, -s, s, c, 0, 0)


def angle(p, q):
    p, q = int(p), int(q)
    return Fraction(q * q - p * p, p * p + q * q), Fraction(2 * p * q, p * p + q * q)


def both(t, u):
    """First by u, then by t."""
    return (t[0] * u[0] + t[1] * u[2], t[0] * u[1] + t[1] * u[3], t[2] * u[0] + t[3] * u[2], t[2] * u[1] + t[3] * u[3],
            t[0] * u[4] + t[1] * u[5] + t[4], t[2] * u[4] + t[3] * u[5] + t[5])


def lead(t, x, y):
    return t[0] * x + t[1] * y + t[4], t[2] * x + t[3] * y + t[5]


def lead_from(t, x, y):
    x, y, d = x - t[4], y - t[5], t[0] * t[3] - t[1] * t[2]
    return (t[3] * x - t[1] * y) / d, (t[0] * y - t[2] * x) / d


def is_far(x, y):
    square = x * x + y * y
    return square > 0 and all(math.isqrt(part) ** 2 == part for part in (square.numerator, square.denominator))


class Other:
    """The same rows, run by one walk through all that is still to be done."""

    def __init__(self, text):
        self.rows = [row.split() for row in text.split("\n")] if text else []
        self.x = self.y = self.side = Fraction(0)
        self.by, self.pace, self.entries = False, 0, []

    def block(self, name):
        inside, found = None, []
        for at, words in enumerate(self.rows):
            if words[0] == "piece":
                inside = words[1]
            elif words[0] == "end":
                inside = None
            elif inside == name:
                found.append(at)
        return found

    def run(self):
        """The road's entries, or the refusal as (kind, value)."""
        # What is still to be done, the next one last: a row's number, the calls around it, the tables of its turn
        # (the first one of them is what stands without) and how many frames stand without.
        first = [ALIKE]
        todo = [(at, (), first, 0) for at in reversed(self.block(None))]
        done = 0
        while todo:
            at, trail, tables, without = todo.pop()
            words = self.rows[at]
            done += 1
            many = without + len(tables) - 1
            if done > 2000:
                return TooMany, 2000
            if words[0] == "call":
                if len(trail) == 8:
                    return TooDeep, at
                for turn in reversed(range(int(words[2]))):
                    own = [tables[-1]]
                    todo += [(row, trail + ((at, turn),), own, many) for row in reversed(self.block(words[1]))]
            elif words[0] in ("shift", "turn", "flip"):
                if many == 8:
                    return NoFrame, at
                tables.append(both(tables[-1], table_of(words)))
            elif words[0] == "back":
                if len(tables) == 1:
                    return NoFrame, at
                tables.pop()
            elif words[0] in ("by", "from", "pace", "side"):
                self.setting(words)
            else:
                if len(self.entries) == 100:
                    return TooMany, 100
                if not self.step(words, tables[-1], trail + ((at, 0),)):
                    return Uneven, at
        return None, self.entries

    def setting(self, words):
        if words[0] == "pace":
            self.pace = int(words[1])
        elif words[0] == "side":
            self.side = Fraction(words[1])
        else:
            self.by = words[0] == "by"

    def spot(self, t, x, y):
        own = (Fraction(0), Fraction(0)) if self.by else lead_from(t, self.x, self.y)
        x, y = lead(t, own[0] if x == "." else Fraction(x), own[1] if y == "." else Fraction(y))
        return (x - t[4] + self.x, y - t[5] + self.y) if self.by else (x, y)

    def step(self, words, t, trail):
        about = t[0] * t[3] - t[1] * t[2] < 0
        begin, rest = (self.x, self.y), ()
        if words[0] == "run":
            c, s = angle(words[1], words[2])
            far = Fraction(words[3])
            self.x, self.y = begin[0] + far * (t[0] * c + t[1] * s), begin[1] + far * (t[2] * c + t[3] * s)
        elif words[0] in ("hop", "cut"):
            self.x, self.y = self.spot(t, words[1], words[2])
            if words[0] == "cut" and not is_far(self.x - begin[0], self.y - begin[1]):
                return False
        else:
            way = (1 if words[0] == "left" else -1) * (-1 if about else 1)
            cx, cy = self.spot(t, words[1], words[2])
            x, y, (c, s) = begin[0] - cx, begin[1] - cy, angle(words[3], words[4])
            if not is_far(x, y):
                return False
            self.x, self.y = cx + x * c - y * s * way, cy + y * c + x * s * way
            rest = (place(cx, cy), way)
        kind = {"hop": "hop", "cut": "line", "run": "line"}.get(words[0], "arc")
        self.entries.append(((kind, place(*begin), place(self.x, self.y), *rest), self.pace,
                             number(-self.side if about else self.side), trail))
        return True


def made_up(chance):
    """A text of rows of which most can be run."""
    def spot():
        return chance.choice([".", "0", "0", "3", "4", "-5", "1/2"])

    def parts():
        return chance.choice(["1 1", "1 2", "-1 1", "2 1", "0 1", "1 0", "3 -1"])

    def row():
        kind = chance.randrange(22)
        if kind < 5:
            return f"{chance.choice(['hop', 'hop', 'hop', 'cut'])} {spot()} {spot()}"
        if kind < 8:
            return f"run {parts()} {chance.choice(['1', '5', '1/3'])}"
        if kind < 11:
            x, y = chance.choice([("3", "4"), ("5", "0"), ("0", "-1/2"), (".", "2"), (".", ".")])
            return f"{chance.choice(['left', 'right'])} {x} {y} {parts()}"
        if kind < 16:
            return chance.choice([f"shift {chance.randrange(-3, 4)} 1/2", f"turn {parts()}", "flip", "back", "back"])
        if kind < 19:
            return f"call {chance.choice('abcd')} {chance.choice([1, 1, 2, 3, 40])}"
        return chance.choice(["by", "by", "from", f"pace {chance.randrange(10)}", f"side {chance.choice([0, 2, -1])}"])

    texts = [[row() for _ in range(chance.randrange(1, 9))]]
    for name in "abcd":
        # Calls go on to later names mostly, else nearly all would be too deep.
        inside = [row() for _ in range(chance.randrange(6))]
        inside = [text for text in inside if not text.startswith("call") or text[5] > name or chance.randrange(3) == 0]
        texts.append([f"piece {name}", *inside, "end"])
    chance.shuffle(texts)
    return "\n".join(text for block in texts for text in block)


class ManyProgramsTest(Telling):
    def test_each_is_run_alike(self):
        chance = random.Random(11)
        kinds = {}
        for _ in range(1500):
            text = made_up(chance)
            kind, due = Other(text).run()
            kinds[kind] = kinds.get(kind, 0) + 1
            with self.subTest(text):
                self.told(program_text(read_program(text)), text)
                if kind is None:
                    self.told(road_of(text).entries(), due)
                else:
                    self.refused(kind, {"most" if kind is TooMany else "row": due}, road_of, text)
        # Each kind of end is among them, or the programs made up are not worth their name.
        for kind in (None, TooMany, Uneven, NoFrame, TooDeep):
            self.assertGreater(kinds.get(kind, 0), 5, kind)


if __name__ == "__main__":
    unittest.main()
