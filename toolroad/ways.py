"""The way of the tool: led beside the cuts of a road, as far as their side tells, and round their corners."""

from toolroad.amounts import is_below, minus, over, plus, times
from toolroad.errors import Gouge, Unled, Unmet
from toolroad.places import NOUGHT, added, cross, difference, dot, left_of, scaled
from toolroad.steps import headings, radius_of

ONE = (1, 1)


def led_ends(cut, side):
    """Where a cut's led cut begins and ends while nothing is cut back, as a list."""
    return [added(end, scaled(left_of(heading), side)) for end, heading in zip(cut[1:3], headings(cut))]


def led_radius(arc, side):
    """The radius of an arc's led arc; where it isn't above 0 there is none."""
    return minus(radius_of(arc), times((arc[4], 1), side))


def meeting(corner, u, v, side):
    """Where the lines meet that lie beside two lines, of the headings u and v, with a joint at the corner."""
    return added(corner, scaled(added(left_of(u), left_of(v)), over(side, plus(ONE, dot(u, v)))))


class Contour:
    """Cuts of one side, one directly behind another, and what leads the tool along each."""

    def __init__(self, cuts, side):
        self.cuts = cuts
        self.side = side
        self.ends = [led_ends(cut, side) for cut in cuts]
        # Of the joint behind each cut: its arc round the corner, and whether the led cuts don't meet there.
        self.corners = [None for _ in cuts]
        self.misses = [False for _ in cuts]
        for k in range(len(cuts) - 1):
            self.settle(k, k + 1)
        if cuts[-1][2] == cuts[0][1]:
            self.settle(len(cuts) - 1, 0)

    def settle(self, k, after):
        """See to the joint of a cut with the one behind it."""
        u, v = headings(self.cuts[k])[1], headings(self.cuts[after])[0]
        if u == v:
            return
        corner = self.cuts[after][1]
        if not is_below(NOUGHT, times(self.side, cross(u, v))):
            self.go_round(k, after, corner)
        elif self.cuts[k][0] == "line" and self.cuts[after][0] == "line":
            place = meeting(corner, u, v, self.side)
            self.ends[k][1] = place
            self.ends[after][0] = place
        else:
            self.misses[k] = True

    def go_round(self, k, after, corner):
        """Lead the tool round a corner by an arc."""
        way = 1 if is_below(self.side, NOUGHT) else -1
        self.corners[k] = ("arc", self.ends[k][1], self.ends[after][0], corner, way)

    def gouges(self, k):
        """Whether nothing is left of a led cut."""
        cut = self.cuts[k]
        if cut[0] == "arc":
            return not is_below(NOUGHT, led_radius(cut, self.side))
        begin, end = self.ends[k]
        return not is_below(NOUGHT, dot(difference(begin, end), difference(cut[1], cut[2])))

    def led(self, k):
        """The steps that a cut leads: its led cut and, where there is one, the arc round the corner behind it."""
        cut = self.cuts[k]
        steps = [(cut[0], *self.ends[k], *cut[3:])]
        return steps if self.corners[k] is None else [*steps, self.corners[k]]


def is_hop(entry):
    """Whether a road's entry is a hop."""
    return entry[0][0] == "hop"


def is_unled(entries, number):
    """Whether the tool can't come to where the cut of this number is led."""
    if is_hop(entries[number]):
        return False
    side = entries[number][2]
    if number == 0:
        return side != NOUGHT
    ahead = entries[number - 1]
    return not is_hop(ahead) and ahead[2] != side


def contours_of(entries):
    """The contours, as a dict: a tuple (contour, which one of it) for the number of each cut that has a side."""
    runs = []
    for number, entry in enumerate(entries):
        if is_hop(entry) or entry[2] == NOUGHT:
            continue
        ahead = entries[number - 1] if number > 0 else None
        if ahead is None or is_hop(ahead) or ahead[2] != entry[2]:
            runs.append([])
        runs[-1].append(number)
    found = {}
    for run in runs:
        contour = Contour([entries[at][0] for at in run], entries[run[0]][2])
        for k, number in enumerate(run):
            found[number] = (contour, k)
    return found


def look_through(entries, contours):
    """Refuse the first step that hinders."""
    for number in range(len(entries)):
        if is_unled(entries, number):
            raise Unled(number)
        if number in contours:
            contour, k = contours[number]
            if contour.gouges(k):
                raise Gouge(number)
            if contour.misses[k]:
                raise Unmet(number)


def led_steps(entries, contours, number):
    """The steps that the cut of this number leads."""
    if number not in contours:
        return [entries[number][0]]
    contour, k = contours[number]
    return contour.led(k)


def led_hop(entries, contours, number, spot):
    """The hop that the hop of this number leads, from where the tool is."""
    after = number + 1
    if after == len(entries) or is_hop(entries[after]):
        return ("hop", spot, entries[number][0][2])
    return ("hop", spot, led_steps(entries, contours, after)[0][1])


def way_of(road):
    """The way of the tool, for a road."""
    entries = road.entries()
    contours = contours_of(entries)
    look_through(entries, contours)
    way = []
    for number, entry in enumerate(entries):
        if is_hop(entry):
            spot = way[-1][0][2] if way else entry[0][1]
            steps = [led_hop(entries, contours, number, spot)]
        else:
            steps = led_steps(entries, contours, number)
        way.extend([(step, entry[1], number) for step in steps])
    return way
