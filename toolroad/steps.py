"""Steps: hops, and the cuts, which are lines and arcs, as tuples."""

from toolroad.amounts import is_below, is_whole_number, minus, plus, times
from toolroad.places import NOUGHT, cross, difference, distance, dot, heading_to, is_place, span, turned


def is_step(thing):
    """Whether any thing is a step."""
    return is_shaped(thing, "hop", 2) or is_cut(thing)


def is_cut(thing):
    """Whether any thing is a cut."""
    return is_line(thing) or is_arc(thing)


def is_shaped(thing, word, many):
    """Whether any thing is a tuple of this word and so many places behind it."""
    if not isinstance(thing, tuple) or len(thing) != 1 + many or thing[0] != word:
        return False
    return all([is_place(part) for part in thing[1:]])


def is_line(thing):
    """Whether any thing is a line."""
    return is_shaped(thing, "line", 2) and span(thing[1], thing[2]) is not None


def is_arc(thing):
    """Whether any thing is an arc."""
    if not isinstance(thing, tuple) or not is_shaped(thing[:-1], "arc", 3):
        return False
    _, begin, end, centre, way = thing
    if not is_whole_number(way) or way not in (1, -1):
        return False
    radius = span(centre, begin)
    return radius is not None and distance(centre, end) == radius


def radius_of(arc):
    """An arc's radius."""
    return distance(arc[3], arc[1])


def headings(cut):
    """A cut's headings: (at its begin, at its end)."""
    if cut[0] == "line":
        heading = heading_to(cut[1], cut[2])
        return (heading, heading)
    _, begin, end, centre, way = cut
    quarter = ((0, 1), (way, 1))
    return (turned(heading_to(centre, begin), quarter), turned(heading_to(centre, end), quarter))


def lies_on(cut, place):
    """Whether a place lies on a cut; its ends do."""
    if cut[0] == "line":
        return lies_on_line(cut, place)
    return lies_on_arc(cut, place)


def lies_on_line(line, place):
    """Whether a place lies on a line."""
    _, begin, end = line
    whole_way, part = difference(begin, end), difference(begin, place)
    if cross(whole_way, part) != NOUGHT:
        return False
    along = dot(whole_way, part)
    return not is_below(along, NOUGHT) and not is_below(dot(whole_way, whole_way), along)


def lies_on_arc(arc, place):
    """Whether a place lies on an arc."""
    _, begin, end, centre, way = arc
    first, last, asked = difference(centre, begin), difference(centre, end), difference(centre, place)
    # By squares: the asked place's own distance may be no number.
    if dot(asked, asked) != dot(first, first):
        return False
    return begin == end or not is_below(how_far_round(first, last, way), how_far_round(first, asked, way))


def how_far_round(one, other, way):
    """A number that grows with the angle from one direction to another one as long, by the way: 0 for none."""
    # Angles are no numbers of ours, but their cosines are: falling up to the half turn, rising behind it.
    square, along = dot(one, one), dot(one, other)
    if is_below(times((way, 1), cross(one, other)), NOUGHT):
        return plus(times((3, 1), square), along)
    return minus(square, along)
