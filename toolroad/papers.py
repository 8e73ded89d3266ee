"""Papers: for each joint of a way the number of a joint whose cap holds its gear where it is."""

from toolroad.amounts import is_whole_number
from toolroad.limits import DOWN, JOLT, PULL, UP, changes_on, entry_caps, joint_caps
from toolroad.plans import greatest_top, is_plan, joint_gears


def held_from_ahead(caps, rises):
    """For each joint the least gear that the caps up to it leave, and who holds it: a tuple (gear, joint)."""
    held = [(caps[0], 0)]
    for k, rise in enumerate(rises):
        gear, joint = held[k]
        held.append(min((gear + rise, joint), (caps[k + 1], k + 1)))
    return held


def held_from_behind(caps, falls):
    """The same for the caps from each joint on."""
    many = len(falls)
    held = held_from_ahead(caps[::-1], falls[::-1])
    return [(gear, many - joint) for gear, joint in held[::-1]]


def paper_of(way, *, pull=PULL, jolt=JOLT, up=UP, down=DOWN):
    """A paper of the quickest plan."""
    caps = joint_caps(way, pull=pull, jolt=jolt)
    ahead = held_from_ahead(caps, changes_on(way, up))
    behind = held_from_behind(caps, changes_on(way, down))
    return [min(one, other)[1] for one, other in zip(ahead, behind)]


def sums_of(changes):
    """How many gears can be changed from the first joint to each."""
    sums = [0]
    for change in changes:
        sums.append(sums[-1] + change)
    return sums


def are_joints(thing, many):
    """Whether any thing is a list of as many joints' numbers as there are joints."""
    if not isinstance(thing, list) or len(thing) != many:
        return False
    return all([is_whole_number(joint) and 0 <= joint < many for joint in thing])


def have_greatest_tops(way, plan, caps, up, down):
    """Whether a plan's tops are as great as they can be with its joints' gears."""
    for entry, cap, gears in zip(way, caps, plan):
        first, top, last = gears
        if top != greatest_top(entry[0], cap, first, last, up, down):
            return False
    return True


def is_held(way, plan, thing, *, pull=PULL, jolt=JOLT, up=UP, down=DOWN):
    """Whether any two things are a plan of a way, with tops as great as can be, and a paper for it."""
    caps = joint_caps(way, pull=pull, jolt=jolt)
    if not is_plan(way, plan, pull=pull, jolt=jolt, up=up, down=down) or not are_joints(thing, len(caps)):
        return False
    if not have_greatest_tops(way, plan, entry_caps(way, pull=pull), up, down):
        return False
    rises, falls = sums_of(changes_on(way, up)), sums_of(changes_on(way, down))
    for k, gear in enumerate(joint_gears(plan)):
        joint = thing[k]
        changed = rises[k] - rises[joint] if joint < k else falls[joint] - falls[k]
        if gear != caps[joint] + changed:
            return False
    return True
