"""Some steps ahead: the gears of entries that are fed one by one, told as soon as they are known."""

from toolroad.amounts import is_whole_number
from toolroad.errors import Closed, NoEntry, NoWindow
from toolroad.limits import DOWN, JOLT, PULL, UP, bend_cap, change_on, entry_cap
from toolroad.plans import gears_on, slowed
from toolroad.steps import is_step

MOST_WINDOW = 300
MOST_PACE = 9


def is_entry(thing):
    """Whether any thing is an entry of a way."""
    if not isinstance(thing, tuple) or len(thing) != 3 or not is_step(thing[0]):
        return False
    _, pace, number = thing
    return is_whole_number(pace) and 0 <= pace <= MOST_PACE and is_whole_number(number) and number >= 0


class Fed:
    """An entry that was fed and isn't told yet, with its limits; joint is the cap of the joint ahead of it."""

    def __init__(self, step, cap, joint, fall):
        self.step = step
        self.cap = cap
        self.joint = joint
        self.fall = fall


class Ahead:
    """Tells the gears of the entries that it is fed, knowing only as many of them ahead as its window."""

    def __init__(self, window, *, pull=PULL, jolt=JOLT, up=UP, down=DOWN):
        if not is_whole_number(window) or not 1 <= window <= MOST_WINDOW:
            raise NoWindow("a window is a whole number from 1 to 300")
        self.window = window
        self.pull = pull
        self.jolt = jolt
        self.up = up
        self.down = down
        self.newest = None
        self.waiting = []
        self.gear = 0
        self.is_closed = False

    def __len__(self):
        return len(self.waiting)

    def feed(self, entry):
        """Take one more entry; the gears that come to be known by it."""
        if self.is_closed:
            raise Closed("it was closed")
        if not is_entry(entry):
            raise NoEntry("this is no entry")
        step = entry[0]
        if self.newest is not None and self.newest.step[2] != step[1]:
            raise NoEntry("the entry doesn't begin where the one ahead ends")
        self.newest = self.fed(entry)
        self.waiting.append(self.newest)
        if step[0] == "hop":
            return self.told(len(self.waiting))
        return self.told(max(0, len(self.waiting) - self.window))

    def close(self):
        """Take no more entries; the gears that come to be known by it."""
        if self.is_closed:
            raise Closed("it was closed")
        self.is_closed = True
        return self.told(len(self.waiting))

    def fed(self, entry):
        """An entry with its limits."""
        step = entry[0]
        cap = entry_cap(entry, self.pull)
        joint = 0
        if self.newest is not None:
            joint = min(self.newest.cap, cap, bend_cap(self.newest.step, step, self.jolt))
        return Fed(step, cap, joint, change_on(step, self.down))

    def told(self, many):
        """The gears of the first so many that wait, as if the way ended behind the newest; they wait no more."""
        caps = [one.joint for one in self.waiting] + [0]
        most = slowed(caps, [one.fall for one in self.waiting])
        plan = []
        for k in range(many):
            one = self.waiting[k]
            plan.append(gears_on(one.step, one.cap, self.gear, most[k + 1], self.up, self.down))
            self.gear = plan[-1][2]
        self.waiting = self.waiting[many:]
        return plan
