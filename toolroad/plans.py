"""Plans: the gears with which a way is gone, a tuple (first, top, last) for each entry."""

from toolroad.amounts import is_below, is_whole_number, plus, times
from toolroad.limits import DOWN, JOLT, MOST_GEAR, PULL, UP, change_on, changes_on, entry_caps, joint_caps
from toolroad.places import distance


def slowed(caps, falls):
    """For each joint the greatest gear from which all caps from there on can be kept; a fall for each entry."""
    gears = list(caps)
    for k in reversed(range(len(falls))):
        gears[k] = min(caps[k], gears[k + 1] + falls[k])
    return gears


def fits(line, gears, up, down):
    """Whether a line is long enough for gears (first, top, last)."""
    first, top, last = gears
    needed = plus(times((top - first, 1), up), times((top - last, 1), down))
    return not is_below(distance(line[1], line[2]), needed)


def greatest_top(step, cap, first, last, up, down):
    """The greatest top on a step between two gears that can be kept there."""
    if step[0] != "line":
        return first
    top = cap
    while not fits(step, (first, top, last), up, down):
        top -= 1
    return top


def gears_on(step, cap, first, most, up, down):
    """The greatest gears on a step that begins with the gear first and ends with most at most."""
    last = min(most, first + change_on(step, up))
    return (first, greatest_top(step, cap, first, last, up, down), last)


def quickest(way, *, pull=PULL, jolt=JOLT, up=UP, down=DOWN):
    """The quickest plan of a way."""
    caps = entry_caps(way, pull=pull)
    most = slowed(joint_caps(way, pull=pull, jolt=jolt), changes_on(way, down))
    plan = []
    first = 0
    for k, entry in enumerate(way):
        plan.append(gears_on(entry[0], caps[k], first, most[k + 1], up, down))
        first = plan[-1][2]
    return plan


def are_gears(thing):
    """Whether any thing is a tuple of three gears."""
    if not isinstance(thing, tuple) or len(thing) != 3:
        return False
    return all([is_whole_number(gear) and 0 <= gear <= MOST_GEAR for gear in thing])


def is_kept(step, cap, gears, up, down):
    """Whether gears (first, top, last) keep a step's limits."""
    first, top, last = gears
    if top > cap or top < first or top < last:
        return False
    if step[0] != "line":
        return first == top == last
    return fits(step, gears, up, down)


def joint_gears(plan):
    """The gear of each joint of a plan; a plan without entries has one joint, and its cap is 0."""
    return [0, *[last for _, _, last in plan]]


def goes_on(plan):
    """Whether a plan begins with 0, and each of its tuples with the last gear of the one ahead."""
    return [gears[0] for gears in plan] == joint_gears(plan)[:-1]


def is_plan(way, thing, *, pull=PULL, jolt=JOLT, up=UP, down=DOWN):
    """Whether any thing is a plan of a way."""
    if not isinstance(thing, list) or len(thing) != len(way) or not all([are_gears(part) for part in thing]):
        return False
    caps = joint_caps(way, pull=pull, jolt=jolt)
    if not goes_on(thing) or any([gear > cap for gear, cap in zip(joint_gears(thing), caps)]):
        return False
    kept = [is_kept(entry[0], cap, gears, up, down)
            for entry, cap, gears in zip(way, entry_caps(way, pull=pull), thing)]
    return all(kept)
