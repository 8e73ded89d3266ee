import random
import unittest
from fractions import Fraction

from toolroad.ahead import Ahead
from toolroad.errors import Closed, MillError, NoEntry, NoWindow
from toolroad.plans import is_plan, quickest
from toolroad.roads import road_of
from toolroad.ways import way_of
from telling import GREATER, OTHER_THINGS, Telling, place
from test_limits import EAST, NORTH, way_along
from test_plans import Slow, handed, small_way, some_limits
from test_ways import made_up

LONG = way_along(*[("line", 9, EAST, 4)] * 8)


def fed(ahead, way):
    """The lists that the feeding of each entry and then the closing tell."""
    return [ahead.feed(entry) for entry in way] + [ahead.close()]


def plan_by(window, way, **limits):
    return [gears for told in fed(Ahead(window, **limits), way) for gears in told]


def told_when(window, way):
    """For each feeding and the closing how many entries it makes known."""
    counts, known = [], 0
    for at, entry in enumerate(way):
        upto = at + 1 if entry[0][0] == "hop" else max(known, at + 1 - window)
        counts.append(upto - known)
        known = upto
    return counts + [len(way) - known]


def due_lists(window, way, limits):
    """By the document's words: for each entry that is told, all that may be gone if the way ended with the last fed."""
    lists, first, at = [], 0, 0
    for fed_so_far, count in zip([*range(1, len(way) + 1), len(way)], told_when(window, way)):
        slow = Slow(way[:fed_so_far], **limits)
        # The gears at each joint from which the rest, as far as it is fed, can be done.
        lets = [[]] * fed_so_far + [[0]]
        for k in reversed(range(at, fed_so_far)):
            lets[k] = [gear for gear in range(10) if any(one[2] in lets[k + 1] for one in slow.gears(k, gear))]
        told = []
        for _ in range(count):
            some = [one for one in slow.gears(at, first) if one[2] in lets[at + 1]]
            last = max(one[2] for one in some)
            told.append((first, max(one[1] for one in some if one[2] == last), last))
            first, at = last, at + 1
        lists.append(told)
    return lists


class WindowTest(Telling):
    def test_windows(self):
        for window in (1, 2, 299, 300):
            self.assertEqual(len(Ahead(window)), 0)

    def test_no_window(self):
        for window in [*[thing for thing in OTHER_THINGS if thing.__class__ is not int or not 1 <= thing <= 300], 0,
                       -1, 301,
                       GREATER, -GREATER, True, False, None, "5", (5, 1), [5], (5,), ""]:
            self.refused(NoWindow, {}, Ahead, window)


class TellingTest(Telling):
    def lists(self, due, window, way, **limits):
        with self.subTest(window=window, way=way, limits=limits):
            self.told(fed(Ahead(window, **limits), way), due)

    def test_nothing(self):
        self.lists([[]], 1, [])
        self.lists([[]], 300, [])

    def test_one_line(self):
        for window in (1, 2, 300):
            self.lists([[], [(0, 2, 0)]], window, LONG[:1])

    def test_as_many_as_the_window_behind_it(self):
        for window in range(1, 12):
            told = [len(one) for one in fed(Ahead(window), LONG)]
            self.told(told, [0] * min(window, 8) + [1] * max(0, 8 - window) + [min(window, 8)])

    def test_what_is_told(self):
        # Lines of the length 4: up by 4 on each, down by 8.
        ahead = Ahead(1)
        self.told(ahead.feed(LONG[0]), [])
        # The way would end with the second one: 4 at its begin can be left on it, 8 gears down.
        self.told(ahead.feed(LONG[1]), [(0, 4, 4)])
        self.told(ahead.feed(LONG[2]), [(4, 8, 8)])
        self.told(ahead.feed(LONG[3]), [(8, 9, 8)])
        self.told(ahead.close(), [(8, 8, 0)])

    def test_the_window_holds_back(self):
        # Lines of the length 1: up by 1, down by 2.
        way = way_along(*[("line", 9, EAST, 1)] * 9)
        self.told(plan_by(1, way), [(0, 1, 1), (1, 2, 2)] + [(2, 2, 2)] * 6 + [(2, 2, 0)])
        self.told(plan_by(2, way), [(0, 1, 1), (1, 2, 2), (2, 3, 3), (3, 4, 4), (4, 4, 4), (4, 4, 4), (4, 4, 4),
                                    (4, 4, 2),
                                    (2, 2, 0)])
        self.told(plan_by(9, way), quickest(way))

    def test_hops(self):
        way = way_along(("line", 9, EAST, 3), ("hop", 9, (3, 0)), ("hop", 5, (4, 4)), ("line", 9, EAST, 3),
                        ("line", 9, EAST, 3), ("line", 2, EAST, 3), ("hop", 0, (0, 0)))
        for window in (1, 2):
            lists = fed(Ahead(window), way)
            self.told(lists[:3], [[], [(0, 2, 0), (0, 0, 0)], [(0, 0, 0)]])
            self.told([len(told) for told in lists], [0, 2, 1, 0, *((1, 1, 2) if window == 1 else (0, 1, 3)), 0])
        for window in (3, 4, 300):
            self.told(fed(Ahead(window), way), [[], [(0, 2, 0), (0, 0, 0)], [(0, 0, 0)], [], [], [],
                                                [(0, 3, 3), (3, 4, 2), (2, 2, 0), (0, 0, 0)], []])

    def test_len(self):
        for window in (1, 3, 8, 9, 300):
            ahead = Ahead(window)
            for at, entry in enumerate(LONG):
                ahead.feed(entry)
                self.told(len(ahead), min(at + 1, window))
            ahead.close()
            self.told(len(ahead), 0)
        ahead = Ahead(300)
        for at, entry in enumerate(way_along(*[("line", 9, EAST, 1)] * 3, ("hop", 0, (9, 9)), ("line", 9, EAST, 1))):
            ahead.feed(entry)
            self.told(len(ahead), (1, 2, 3, 0, 1)[at])

    def test_arcs_ahead(self):
        # The arc lets 2: seen only where it is fed.
        way = way_along(("line", 9, EAST, 8), ("line", 9, EAST, 8), ("arc", 9, (0, -2), NORTH, 1),
                        ("line", 9, NORTH, 8))
        self.told(plan_by(1, way), [(0, 8, 8), (8, 9, 0), (0, 0, 0), (0, 5, 0)])
        self.told(plan_by(2, way), [(0, 8, 8), (8, 9, 2), (2, 2, 2), (2, 6, 0)])
        self.told(plan_by(3, way), quickest(way))

    def test_limits_by_name(self):
        way = way_along(("line", 9, EAST, 6), ("arc", 9, (0, -2), NORTH, 1), ("line", 9, NORTH, 6),
                        ("line", 9, EAST, 2))
        limits = {"pull": Fraction(8), "jolt": Fraction(3), "up": Fraction(1, 3), "down": Fraction(1, 5)}
        for name in [*limits, None]:
            some = {other: limit for other, limit in limits.items() if other != name}
            for window in (1, 2, 3, 4):
                self.lists(due_lists(window, way, some), window, way, **handed(some))
            self.told(plan_by(4, way, **handed(some)), quickest(way, **handed(some)))

    def test_many_ways(self):
        chance = random.Random(71)
        slower = 0
        for _ in range(250):
            way = small_way(chance, chance.randrange(1, 9))
            limits = some_limits(chance)
            plans = []
            for window in (1, 2, 3, len(way), len(way) + 1, 300):
                self.lists(due_lists(window, way, limits), window, way, **handed(limits))
                plans.append(plan_by(window, way, **handed(limits)))
            best = quickest(way, **handed(limits))
            for plan in plans:
                self.assertIs(is_plan(way, plan, **handed(limits)), True)
                self.never_quicker(plan, best)
                slower += plan != best
            for plan, other in zip(plans, plans[1:]):
                self.never_quicker(plan, other)
            for plan in plans[3:]:
                self.told(plan, best)
        self.assertGreater(slower, 40)

    def never_quicker(self, plan, other):
        for gears, others in zip(plan, other):
            self.assertTrue(all(gear <= most for gear, most in zip(gears, others)), (plan, other))

    def test_three_hundred_entries(self):
        chance = random.Random(73)
        way = small_way(chance, 300)
        best, before = quickest(way), None
        for window in (1, 2, 5, 20, 100, 299, 300):
            plan = plan_by(window, way)
            self.assertIs(is_plan(way, plan), True)
            self.never_quicker(plan, best)
            if before:
                self.never_quicker(before, plan)
            before = plan
        self.told(before, best)
        line = way_along(*[("line", 9, EAST, 1)] * 300)
        self.told([len(told) for told in fed(Ahead(299), line)], [0] * 299 + [1, 299])
        self.told([len(told) for told in fed(Ahead(300), line)], [0] * 300 + [300])

    def test_ways_of_programs(self):
        chance = random.Random(79)
        for _ in range(150):
            try:
                way = way_of(road_of(made_up(chance)))
            except MillError:
                continue
            for window in (1, 2, 4):
                plan = plan_by(window, way)
                self.assertIs(is_plan(way, plan), True)
                self.never_quicker(plan, quickest(way))
            self.told(plan_by(max(1, len(way)), way), quickest(way))


class RefusedTest(Telling):
    def test_closed(self):
        for way in ([], LONG[:1], LONG[:3], [(("hop", place(0, 0), place(1, 1)), 0, 0)]):
            ahead = Ahead(2)
            fed(ahead, way)
            for _ in range(2):
                self.refused(Closed, {}, ahead.close)
                self.refused(Closed, {}, ahead.feed, LONG[len(way)])
                # Ahead of NoEntry.
                for thing in (None, 5, LONG[7], (), []):
                    self.refused(Closed, {}, ahead.feed, thing)
                self.assertEqual(len(ahead), 0)

    def test_no_entry(self):
        step, pace, number = LONG[0]
        for thing in [*OTHER_THINGS, step, LONG, LONG[:1], list(LONG[0]), (step, pace), (step, pace, number, 0),
                      (pace, step, 0),
                      (step, -1, 0), (step, 10, 0), (step, GREATER, 0), (step, True, 0), (step, False, 0),
                      (step, None, 0),
                      (step, "5", 0), (step, (5, 1), 0), (step, 5, -1), (step, 5, -GREATER), (step, 5, True),
                      (step, 5, False),
                      (step, 5, None), (step, 5, (1, 1)), (step, 5, "1"), (step, 5, [1]), (list(step), 5, 0),
                      (None, 5, 0),
                      ((), 5, 0), (("hop",), 5, 0), (step[:2], 5, 0), (step + (1,), 5, 0),
                      (("line", step[1], step[1]), 5, 0),
                      (("line", step[1], place(1, 1)), 5, 0), (("arc", place(0, 0), place(1, 1), place(1, 0), 0), 5, 0),
                      (("arc", place(0, 0), place(1, 1), place(1, 0), True), 5, 0), (("hip", step[1], step[2]), 5, 0),
                      (("arc", place(0, 0), place(2, 1), place(1, 0), 1), 5, 0), "line", ("line", 5, 0),
                      (("line", ((0, 1), (0, 2)), place(4, 0)), 5, 0), (("line", [(0, 1), (0, 1)], place(4, 0)), 5, 0)]:
            ahead = Ahead(3)
            with self.subTest(str(thing)[:100]):
                self.refused(NoEntry, {}, ahead.feed, thing)
                self.assertEqual(len(ahead), 0)
                # Nothing is changed by it, wherever it comes.
                told = []
                for entry in LONG:
                    told.append(ahead.feed(entry))
                    self.refused(NoEntry, {}, ahead.feed, thing)
                self.told(told + [ahead.close()], fed(Ahead(3), LONG))

    def test_entries_of_each_kind(self):
        hop = ("hop", place(4, 0), place(4, 0))
        for entry in [(hop, 0, 0), (hop, 9, GREATER), (LONG[1][0], 0, 0), (LONG[1][0], 9, 10 ** 39),
                      (("arc", place(4, 0), place(4, 0), place(4, 5), -1), 3, 0)]:
            ahead = Ahead(1)
            ahead.feed(LONG[0])
            self.assertEqual(len(ahead.feed(entry)), 2 if entry[0][0] == "hop" else 1)

    def test_an_entry_that_begins_elsewhere(self):
        for at, wrong in [(1, 0), (1, 2), (2, 1), (3, 7), (5, 4), (5, 0)]:
            for window in (1, 2, 300):
                ahead = Ahead(window)
                told = [ahead.feed(entry) for entry in LONG[:at]]
                many = len(ahead)
                self.refused(NoEntry, {}, ahead.feed, LONG[wrong])
                self.refused(NoEntry, {}, ahead.feed, (("hop", place(99, 0), place(4, 0)), 0, 0))
                self.assertEqual(len(ahead), many)
                told += [ahead.feed(entry) for entry in LONG[at:]] + [ahead.close()]
                self.told(told, fed(Ahead(window), LONG))

    def test_behind_a_hop_that_was_told(self):
        ahead = Ahead(5)
        self.told(ahead.feed((("hop", place(0, 0), place(3, 3)), 0, 0)), [(0, 0, 0)])
        self.refused(NoEntry, {}, ahead.feed, LONG[0])
        self.refused(NoEntry, {}, ahead.feed, (("hop", place(0, 0), place(3, 3)), 0, 0))
        self.told(ahead.feed((("hop", place(3, 3), place(0, 0)), 0, 0)), [(0, 0, 0)])

    def test_the_first_may_begin_anywhere(self):
        for at in range(8):
            ahead = Ahead(1)
            ahead.feed(LONG[at])
            self.assertEqual(len(ahead), 1)


class TwoTest(Telling):
    def test_by_turns(self):
        chance = random.Random(83)
        for _ in range(20):
            ways = [small_way(chance, 6) for _ in range(2)]
            windows = [chance.randrange(1, 5) for _ in range(2)]
            both = [Ahead(windows[0]), Ahead(windows[1], pull=(9, 1), up=(1, 3))]
            told = [[], []]
            for k in range(6):
                for one in (0, 1):
                    told[one].append(both[one].feed(ways[one][k]))
            for one in (1, 0):
                told[one].append(both[one].close())
            self.told(told, [fed(Ahead(windows[0]), ways[0]), fed(Ahead(windows[1], pull=(9, 1), up=(1, 3)), ways[1])])

    def test_each_list_is_the_askers_own(self):
        ahead = Ahead(1)
        told = []
        for entry in LONG:
            one = ahead.feed(entry)
            told.append(list(one))
            one.append("more")
        last = ahead.close()
        self.told(told + [last], fed(Ahead(1), LONG))


if __name__ == "__main__":
    unittest.main()
