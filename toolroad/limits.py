"""Limits: what keeps the gears low at a way's joints and on its steps."""

from toolroad.amounts import is_below, minus, over, times, whole
from toolroad.places import distance, dot
from toolroad.steps import headings, radius_of

PULL = (2, 1)
JOLT = (1, 1)
UP = (1, 1)
DOWN = (1, 2)
MOST_GEAR = 9


def greatest_gear(most, by, limit):
    """The greatest gear, at most the one told, that, times itself and by, is at most a limit from 0 on."""
    gear = most
    while is_below(limit, times((gear * gear, 1), by)):
        gear -= 1
    return gear


def entry_cap(entry, pull):
    """The cap of one entry."""
    step, pace, _ = entry
    if step[0] == "hop":
        return 0
    if step[0] == "line":
        return pace
    return greatest_gear(pace, (1, 1), times(pull, radius_of(step)))


def bend_cap(one, other, jolt):
    """The greatest gear with which the joint of two steps can be passed, for how the heading changes there."""
    if one[0] == "hop" or other[0] == "hop":
        return MOST_GEAR
    alike = dot(headings(one)[1], headings(other)[0])
    return greatest_gear(MOST_GEAR, minus((2, 1), times((2, 1), alike)), times(jolt, jolt))


def entry_caps(way, *, pull=PULL):
    """The cap of each entry of a way."""
    return [entry_cap(entry, pull) for entry in way]


def joint_caps(way, *, pull=PULL, jolt=JOLT):
    """The cap of each joint of a way, the first one ahead of all entries and the last one behind them."""
    if not way:
        return [0]
    caps = entry_caps(way, pull=pull)
    inner = [min(caps[k], caps[k + 1], bend_cap(way[k][0], way[k + 1][0], jolt)) for k in range(len(way) - 1)]
    return [0, *inner, 0]


def change_on(step, each):
    """How many gears can be changed on a step, where each takes so much of its length."""
    if step[0] != "line":
        return 0
    return whole(over(distance(step[1], step[2]), each))


def changes_on(way, each):
    """How many gears can be changed on each entry of a way."""
    return [change_on(entry[0], each) for entry in way]
