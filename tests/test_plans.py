import random
import unittest
from fractions import Fraction

from toolroad.errors import MillError
from toolroad.limits import joint_caps
from toolroad.plans import is_plan, quickest
from toolroad.roads import road_of
from toolroad.ways import way_of
from telling import GREATER, OTHER_THINGS, Telling, fractions, number
from test_limits import EAST, NORTH, WEST, round_of, way_along
from test_ways import Cut, dot, length, made_up, minus

LIMITS = {"pull": Fraction(2), "jolt": Fraction(1), "up": Fraction(1), "down": Fraction(1, 2)}


def handed(limits):
    return {name: number(limit) for name, limit in limits.items()}


class Slow:
    """The limits of a way once more, by fractions, and what keeps them."""

    def __init__(self, way, **limits):
        limits = LIMITS | limits
        self.up, self.down = limits["up"], limits["down"]
        self.words = [step[0] for step, _, _ in way]
        self.caps, cuts = [], []
        for at, (step, pace, _) in enumerate(way):
            cap = 0 if step[0] == "hop" else pace
            if step[0] == "arc":
                radius = length(minus(fractions(step[1]), fractions(step[3])))
                cap = max(gear for gear in range(pace + 1) if gear * gear <= limits["pull"] * radius)
            self.caps.append(cap)
            cuts.append(None if step[0] == "hop" else Cut((step, pace, (1, 1), ()), at))
        self.fars = [cut.far if word == "line" else None for word, cut in zip(self.words, cuts)]
        self.joints = [0] * (len(way) + 1)
        for k in range(1, len(way)):
            self.joints[k] = min(self.caps[k - 1:k + 1])
            if cuts[k - 1] and cuts[k]:
                rest = 2 - 2 * dot(cuts[k - 1].v, cuts[k].u)
                self.joints[k] = max(gear for gear in range(self.joints[k] + 1)
                                     if gear * gear * rest <= limits["jolt"] ** 2)

    def keeps(self, k, first, top, last):
        """Whether the gears may be gone on entry k."""
        if first > self.joints[k] or last > self.joints[k + 1] or max(first, top, last) > self.caps[k]:
            return False
        if self.words[k] != "line":
            return first == top == last
        return top >= max(first, last) and (top - first) * self.up + (top - last) * self.down <= self.fars[k]

    def gears(self, k, first):
        """All the gears that may be gone on entry k from a first one."""
        some = range(self.caps[k] + 1)
        return [(first, top, last) for top in some for last in some if self.keeps(k, first, top, last)]

    def plans(self, k=0, first=0):
        """All plans of the way from entry k on."""
        if k == len(self.caps):
            return [[]]
        return [[one, *rest] for one in self.gears(k, first) for rest in self.plans(k + 1, one[2])]


def small_way(chance, most):
    """A way of some entries, most of them lines, most of them going on as the one ahead does."""
    parts, heading = [], EAST
    for _ in range(most):
        kind = chance.randrange(12)
        pace = chance.choice([1, 3, 4, 5, 6, 6])
        if chance.randrange(8) == 0:
            heading = chance.choice([EAST, NORTH, ("3/5", "4/5"), ("99/101", "20/101"), ("-20/101", "99/101")])
        if kind == 0 and chance.randrange(3) == 0:
            parts.append(("hop", pace, (chance.randrange(5), 1)))
        elif kind < 9:
            parts.append(("line", pace, heading, Fraction(chance.randrange(1, 16), chance.randrange(1, 4))))
        else:
            far, way = Fraction(chance.randrange(1, 30), 3), chance.choice([1, -1])
            bend = chance.choice([NORTH, WEST, ("4/5", "3/5")])
            (c, s), (a, b) = [tuple(map(Fraction, one)) for one in (heading, bend)]
            parts.append(("arc", pace, (s * far * way, -c * far * way), (a, b), way))
            heading = (c * a - s * b * way, s * a + c * b * way)
    return way_along(*parts)


def some_limits(chance):
    """All four, some of them, or none of them, otherwise than by default."""
    return {name: Fraction(chance.randrange(1, 12), chance.randrange(1, 9)) for name in LIMITS if chance.randrange(2)}


class QuickestTest(Telling):
    def plan(self, due, *parts, **limits):
        way = way_along(*parts)
        with self.subTest(way=way, limits=limits):
            before = repr(way)
            self.told(quickest(way, **limits), due)
            self.told(repr(way), before)
            self.assertIs(is_plan(way, due, **limits), True)
            self.assertIs(is_plan(way, quickest(way, **limits), **limits), True)

    def test_nothing(self):
        self.plan([])

    def test_hops(self):
        self.plan([(0, 0, 0)], ("hop", 9, (1, 1)))
        self.plan([(0, 0, 0)] * 3, ("hop", 9, (1, 1)), ("hop", 5, (1, 1)), ("hop", 0, (0, 0)))

    def test_one_line(self):
        # Each gear up takes 1, each gear down 1/2.
        for far, top in [("1/2", 0), ("1", 0), ("3/2", 1), ("29/10", 1), ("3", 2), ("27/2", 9), ("134/10", 8),
                         ("99", 9)]:
            self.plan([(0, top, 0)], ("line", 9, EAST, Fraction(far)))
            self.plan([(0, min(top, 4), 0)], ("line", 4, EAST, Fraction(far)))

    def test_one_arc(self):
        self.plan([(0, 0, 0)], round_of(9, 50))

    def test_lines_straight_on(self):
        self.plan([(0, 3, 3), (3, 3, 0)], ("line", 9, EAST, 3), ("line", 3, EAST, 9))
        self.plan([(0, 3, 3), (3, 7, 0)], ("line", 9, EAST, 3), ("line", 9, EAST, 8))
        self.plan([(0, 4, 2), (2, 2, 0)], ("line", 9, EAST, 5), ("line", 9, EAST, 1))
        self.plan([(0, 4, 4), (4, 4, 2), (2, 2, 0)], ("line", 9, EAST, 4), ("line", 9, EAST, 1), ("line", 2, EAST, 1))
        self.plan([(0, 0, 0), (0, 0, 0)], ("line", 9, EAST, Fraction(1, 3)), ("line", 9, EAST, Fraction(1, 3)))

    def test_lines_and_an_arc(self):
        # A radius of 9/2 lets 3; the lines lead up to it and down from it.
        arc = ("arc", 9, (0, Fraction(-9, 2)), NORTH, 1)
        self.plan([(0, 3, 3), (3, 3, 3), (3, 3, 0)], ("line", 9, EAST, 3), arc, ("line", 9, NORTH, Fraction(3, 2)))
        self.plan([(0, 2, 2), (2, 2, 2), (2, 2, 0)], ("line", 9, EAST, 2), arc, ("line", 9, NORTH, Fraction(3, 2)))
        self.plan([(0, 3, 2), (2, 2, 2), (2, 2, 0)], ("line", 9, EAST, 4), arc, ("line", 9, NORTH, 1))
        self.plan([(0, 7, 3), (3, 3, 3), (3, 7, 0)], ("line", 9, EAST, 9), arc, ("line", 9, NORTH, Fraction(15, 2)))
        self.plan([(0, 0, 0), (0, 0, 0), (0, 6, 0)], arc, arc, ("line", 9, WEST, 9))

    def test_bends(self):
        self.plan([(0, 2, 0), (0, 2, 0)], ("line", 9, EAST, 3), ("line", 9, NORTH, 3))
        self.plan([(0, 2, 1), (1, 2, 0)], ("line", 9, EAST, 3), ("line", 9, NORTH, 3), jolt=(3, 2))

    def test_a_hop_between(self):
        self.plan([(0, 2, 0), (0, 0, 0), (0, 2, 0)], ("line", 9, EAST, 3), ("hop", 9, (3, 0)), ("line", 9, EAST, 3))

    def test_limits_by_name(self):
        parts = [("line", 9, EAST, 6), ("arc", 9, (0, -2), NORTH, 1), ("line", 9, NORTH, 6), ("line", 9, EAST, 2)]
        self.plan([(0, 4, 2), (2, 2, 2), (2, 5, 0), (0, 1, 0)], *parts)
        self.plan([(0, 5, 4), (4, 4, 4), (4, 6, 0), (0, 1, 0)], *parts, pull=(8, 1))
        self.plan([(0, 4, 2), (2, 2, 2), (2, 5, 1), (1, 2, 0)], *parts, jolt=(3, 2))
        self.plan([(0, 9, 2), (2, 2, 2), (2, 8, 0), (0, 2, 0)], *parts, up=(1, 4))
        self.plan([(0, 5, 2), (2, 2, 2), (2, 6, 0), (0, 1, 0)], *parts, down=(1, 4))
        self.plan([(0, 8, 6), (6, 6, 6), (6, 9, 4), (4, 4, 0)], *parts, pull=(20, 1), jolt=(6, 1), up=(2, 3),
                  down=(1, 3))

    def test_great_and_small(self):
        self.plan([(0, 9, 0)], ("line", 9, EAST, GREATER), up=(GREATER, 20), down=(1, GREATER))
        self.plan([(0, 9, 0)], ("line", 9, EAST, Fraction(18, GREATER)), up=(1, GREATER), down=(1, GREATER))
        self.plan([(0, 0, 0)], ("line", 9, EAST, Fraction(1, GREATER)))

    def test_a_slow_search(self):
        chance = random.Random(31)
        many = 0
        for _ in range(400):
            way = small_way(chance, chance.randrange(1, 5))
            limits = some_limits(chance)
            plans = Slow(way, **limits).plans()
            if len(plans) > 20000:
                continue
            many += len(plans)
            told = quickest(way, **handed(limits))
            with self.subTest(way=way, limits=limits):
                self.assertIn(told, plans)
                for k in range(len(way)):
                    for part in range(3):
                        self.assertEqual(told[k][part], max(plan[k][part] for plan in plans))
        self.assertGreater(many, 10000)

    def test_three_hundred_entries(self):
        chance = random.Random(37)
        for _ in range(4):
            way = small_way(chance, 300)
            limits = some_limits(chance)
            slow = Slow(way, **limits)
            # From the end: all gears at each joint from which the rest can be done; then the greatest, from the begin.
            lets = [[]] * 300 + [[0]]
            for k in reversed(range(300)):
                lets[k] = [first for first in range(slow.joints[k] + 1)
                           if any(one[2] in lets[k + 1] for one in slow.gears(k, first))]
            due, first = [], 0
            for k in range(300):
                last = max(one[2] for one in slow.gears(k, first) if one[2] in lets[k + 1])
                due.append((first, max(one[1] for one in slow.gears(k, first) if one[2] == last), last))
                first = last
            self.told(quickest(way, **handed(limits)), due)
            self.assertIs(is_plan(way, due, **handed(limits)), True)
        way = way_along(*[("line", 9, EAST, 1)] * 300)
        self.told(quickest(way), [(min(k, 9), min(k + 1, 9), min(k + 1, 9)) for k in range(294)]
                  + [(9, 9, 9), (9, 9, 8), (8, 8, 6), (6, 6, 4), (4, 4, 2), (2, 2, 0)])

    def test_each_list_is_the_askers_own(self):
        way = way_along(("line", 9, EAST, 3))
        quickest(way).clear()
        self.told(quickest(way), [(0, 2, 0)])


class IsPlanTest(Telling):
    WAY = way_along(("hop", 5, (1, 1)), ("line", 9, EAST, 6), ("arc", 9, (0, -2), NORTH, 1), ("line", 6, NORTH, 6),
                    ("line", 7, NORTH, 2), ("line", 9, EAST, 3))

    def say(self, due, thing, **limits):
        with self.subTest(str(thing)[:100], limits=limits):
            before = repr(thing)
            self.assertIs(is_plan(self.WAY, thing, **limits), due)
            self.told(repr(thing), before)

    def with_one(self, k, gears):
        plan = quickest(self.WAY)
        plan[k] = gears
        return plan

    def test_the_quickest_and_slower_ones(self):
        plan = quickest(self.WAY)
        self.told(plan, [(0, 0, 0), (0, 4, 2), (2, 2, 2), (2, 6, 4), (4, 4, 0), (0, 2, 0)])
        self.say(True, plan)
        self.say(True, [(0, 0, 0)] * 6)
        self.say(True, [(0, 0, 0), (0, 2, 2), (2, 2, 2), (2, 2, 0), (0, 0, 0), (0, 0, 0)])
        self.say(True, [(0, 0, 0), (0, 3, 1), (1, 1, 1), (1, 4, 3), (3, 3, 0), (0, 1, 0)])
        self.say(True, self.with_one(5, (0, 1, 0)))

    def test_all_plans_of_small_ways(self):
        chance = random.Random(41)
        said = {True: 0, False: 0}
        for _ in range(150):
            way = small_way(chance, chance.randrange(3))
            limits = some_limits(chance)
            slow = Slow(way, **limits)
            plans = slow.plans()
            for plan in plans[:20]:
                self.assertIs(is_plan(way, plan, **handed(limits)), True)
                for _ in range(10 * len(way)):
                    other = [list(gears) for gears in plan]
                    at, part = chance.randrange(len(way)), chance.randrange(3)
                    other[at][part] = chance.randrange(7)
                    if part == 2 and at + 1 < len(way) and chance.randrange(2):
                        other[at + 1][0] = other[at][2]
                    other = [tuple(gears) for gears in other]
                    due = other in plans
                    said[due] += 1
                    self.assertIs(is_plan(way, other, **handed(limits)), due, (way, other, limits))
        self.assertGreater(min(said.values()), 300)

    def test_no_entries(self):
        self.assertIs(is_plan([], []), True)
        for thing in [[(0, 0, 0)], (), None, [[]], 0, False]:
            self.assertIs(is_plan([], thing), False)

    def test_too_few_or_too_many(self):
        plan = quickest(self.WAY)
        for thing in [plan[:-1], plan[1:], [], plan + [(0, 0, 0)], [(0, 0, 0)] + plan, plan + plan, plan[:1]]:
            self.say(False, thing)

    def test_each_first_the_last_ahead(self):
        self.say(False, self.with_one(2, (1, 1, 1)))
        self.say(False, self.with_one(3, (1, 5, 4)))
        self.say(False, self.with_one(4, (3, 3, 0)))
        self.say(False, self.with_one(4, (4, 4, 1)))
        self.say(False, self.with_one(3, (2, 4, 3)))

    def test_joints_caps(self):
        # The first and the last joint, a hop's, an arc's and a bend's.
        self.assertIs(is_plan(way_along(("line", 9, EAST, 9)), [(1, 1, 0)]), False)
        self.assertIs(is_plan(way_along(("line", 9, EAST, 9)), [(0, 1, 1)]), False)
        self.assertIs(is_plan(way_along(("line", 9, EAST, 9)), [(0, 1, 0)]), True)
        self.assertIs(is_plan(way_along(round_of(9, 50)), [(1, 1, 1)]), False)
        self.say(False, self.with_one(5, (0, 3, 0))[:5] + [(0, 2, 1)])
        bent = way_along(("line", 9, EAST, 9), ("line", 9, NORTH, 9))
        for gear, jolt, due in [(0, (1, 1), True), (1, (1, 1), False), (1, (3, 2), True), (2, (3, 2), False)]:
            self.assertIs(is_plan(bent, [(0, gear, gear), (gear, gear, 0)], jolt=jolt), due)
        around = way_along(("line", 9, NORTH, 9), round_of(9, 2), ("line", 9, NORTH, 9))
        for gear, pull, due in [(2, (2, 1), True), (3, (2, 1), False), (3, (9, 2), True), (4, (9, 2), False)]:
            plan = [(0, gear, gear), (gear, gear, gear), (gear, gear, 0)]
            self.assertIs(is_plan(around, plan, pull=pull), due)

    def test_entries_caps(self):
        for pace in range(9):
            way = way_along(("line", pace, EAST, 99))
            self.assertIs(is_plan(way, [(0, pace, 0)]), True)
            self.assertIs(is_plan(way, [(0, pace + 1, 0)]), False)
        self.assertIs(is_plan(way_along(("hop", 9, (9, 9))), [(0, 1, 0)]), False)

    def test_arcs_and_hops_all_the_same(self):
        way = way_along(("line", 9, NORTH, 9), round_of(9, 50), round_of(9, 50), ("line", 9, NORTH, 9))
        self.assertIs(is_plan(way, [(0, 4, 4), (4, 4, 4), (4, 4, 4), (4, 4, 0)]), True)
        for inner in [[(4, 5, 4), (4, 4, 4)], [(4, 3, 4), (4, 4, 4)], [(4, 4, 3), (3, 3, 4)], [(4, 4, 5), (5, 5, 4)],
                      [(4, 5, 5), (5, 5, 4)], [(4, 4, 4), (4, 4, 3), ]]:
            last = inner[-1][2]
            self.assertIs(is_plan(way, [(0, 4, 4), *inner, (last, last, 0)]), False)

    def test_tops_no_less(self):
        way = way_along(("line", 9, EAST, 9), ("line", 9, EAST, 9))
        for middle in [(0, 3, 4), (0, 2, 4), (0, 0, 4)]:
            self.assertIs(is_plan(way, [middle, (4, 4, 0)]), False)
        for middle in [(4, 3, 0), (4, 0, 0)]:
            self.assertIs(is_plan(way, [(0, 4, 4), middle]), False)
        self.assertIs(is_plan(way, [(0, 4, 4), (4, 4, 0)]), True)

    def test_at_most_the_length(self):
        tiny = Fraction(1, 10 ** 30)
        for up, down, first, top, last in [(1, "1/2", 0, 4, 3), (1, "1/2", 0, 4, 0), ("2/3", 2, 0, 5, 1),
                                           (3, 3, 0, 7, 7)]:
            up, down = Fraction(up), Fraction(down)
            need = (top - first) * up + (top - last) * down
            for far, due in [(need, True), (need - tiny, False), (need + tiny, True), (need * 2, True)]:
                way = way_along(("line", 9, EAST, far), ("line", 9, EAST, 99))
                self.assertIs(is_plan(way, [(first, top, last), (last, last, 0)], up=number(up), down=number(down)),
                              due)

    def test_any_thing(self):
        plan = quickest(self.WAY)
        for thing in [*OTHER_THINGS, tuple(plan), [list(gears) for gears in plan], [*plan[:-1], list(plan[-1])], [plan],
                      [0] * 6, [(0, 0)] * 6, [(0, 0, 0, 0)] * 6, [()] * 6, [None] * 6, [[]] * 6, ["000"] * 6,
                      [(0, 0, None)] * 6, [("0", "0", "0")] * 6, [((0,), (0,), (0,))] * 6, [(False, False, False)] * 6,
                      [(0, 0, False)] + plan[1:], [(0, False, 0)] + plan[1:], [(False, 0, 0)] + plan[1:],
                      self.with_one(5, (0, True, 0)), self.with_one(5, (0, -1, 0)), self.with_one(5, (0, 10, 0)),
                      self.with_one(5, (-1, 1, 0)), self.with_one(5, (0, 1, -1)), self.with_one(5, (0, GREATER, 0)),
                      self.with_one(5, ((0, 1), (2, 1), (0, 1))), self.with_one(5, (0, (1,), 0)), [(-1, -1, -1)] * 6,
                      self.with_one(5, None), self.with_one(5, ()), self.with_one(5, (0, 2)),
                      self.with_one(5, (0, 2, 0, 0))]:
            self.say(False, thing)

    def test_gears_above_nine(self):
        way = way_along(("line", 9, EAST, 9999))
        self.assertIs(is_plan(way, [(0, 9, 0)]), True)
        self.assertIs(is_plan(way, [(0, 10, 0)]), False)

    def test_limits_by_name(self):
        plan = quickest(self.WAY, pull=(8, 1), jolt=(3, 1), up=(1, 3), down=(1, 5))
        self.say(True, plan, pull=(8, 1), jolt=(3, 1), up=(1, 3), down=(1, 5))
        self.say(False, plan)
        self.say(False, plan, pull=(8, 1), jolt=(3, 1), up=(1, 3))
        self.say(False, plan, pull=(8, 1), jolt=(3, 1), down=(1, 5))
        self.say(False, plan, pull=(8, 1), up=(1, 3), down=(1, 5))
        self.say(False, plan, jolt=(3, 1), up=(1, 3), down=(1, 5))

    def test_ways_of_programs(self):
        chance = random.Random(43)
        for _ in range(300):
            try:
                way = way_of(road_of(made_up(chance)))
            except MillError:
                continue
            plan = quickest(way)
            self.assertIs(is_plan(way, plan), True)
            self.assertIs(is_plan(way, plan[::-1]), plan == plan[::-1] or is_plan(way, plan[::-1]))
            self.assertTrue(all(gears[2] <= cap for gears, cap in zip(plan, joint_caps(way)[1:])))


if __name__ == "__main__":
    unittest.main()
