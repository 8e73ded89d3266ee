"""Chords: places on an arc, each so near to the next that the middle of both lies within what is allowed."""

from toolroad.amounts import is_below, minus, over, plus, times
from toolroad.places import NOUGHT, added, cross, difference, dot, heading_of, is_place, scaled, turned
from toolroad.steps import how_far_round, lies_on_arc, radius_of

ONE = (1, 1)
HALF = (1, 2)


def quarter_parts(radius, within):
    """Into how many parts, at least, a quarter round is cut."""
    # The widest part is round by twice the angle whose tangent is 1 over the parts, so the middle of its ends is from
    # the centre, by the radius, as far as the parts over the root of 1 and the parts' square together.
    least = over(minus(radius, within), radius)
    parts = 1
    if is_below(NOUGHT, least):
        square = times(least, least)
        while is_below((parts * parts, 1), times(square, plus((parts * parts, 1), ONE))):
            parts += 1
    return parts


def heading_part(k, parts, way):
    """The heading that is k parts of quarters round, by a way."""
    c, s = heading_of(k % parts, parts)
    heading = (c, times((way, 1), s))
    for _ in range(k // parts):
        heading = turned(heading, ((0, 1), (way, 1)))
    return heading


def chords(arc, *, within):
    """Places on an arc, from its begin to its end, for chords within a number above 0."""
    _, begin, end, centre, way = arc
    parts = quarter_parts(radius_of(arc), within)
    out = difference(centre, begin)
    far = how_far(arc, end, True)
    places = [begin]
    for k in range(1, 4 * parts):
        place = added(centre, turned(out, heading_part(k, parts, way)))
        if not is_below(how_far(arc, place, False), far):
            break
        places.append(place)
    return [*places, end]


def how_far(arc, place, is_last):
    """A number that grows along an arc, of a place on it; the last one may stand where the begin stands."""
    begin, centre, way = arc[1], arc[3], arc[4]
    out = difference(centre, begin)
    if is_last and place == begin:
        return times((4, 1), dot(out, out))
    return how_far_round(out, difference(centre, place), way)


def is_near(arc, one, other, least):
    """Whether a chord goes less than half round, and its middle is from the centre by the square of least or more."""
    centre, way = arc[3], arc[4]
    ahead, behind = difference(centre, one), difference(centre, other)
    if not is_below(NOUGHT, times((way, 1), cross(ahead, behind))):
        return False
    middle = scaled(added(ahead, behind), HALF)
    return not is_below(dot(middle, middle), least)


def least_square(arc, within):
    """The square of how far from the centre a chord's middle is at least."""
    left = minus(radius_of(arc), within)
    return times(left, left) if is_below(NOUGHT, left) else NOUGHT


def are_chords(arc, thing, *, within):
    """Whether any thing is a list of places for chords of an arc within a number above 0."""
    if not isinstance(thing, list) or len(thing) < 2 or not all([is_place(place) for place in thing]):
        return False
    if thing[0] != arc[1] or thing[-1] != arc[2] or not all([lies_on_arc(arc, place) for place in thing]):
        return False
    fars = [how_far(arc, place, False) for place in thing[:-1]] + [how_far(arc, thing[-1], True)]
    least = least_square(arc, within)
    for k in range(len(thing) - 1):
        if not is_below(fars[k], fars[k + 1]) or not is_near(arc, thing[k], thing[k + 1], least):
            return False
    return True
