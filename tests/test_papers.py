import random
import unittest
from fractions import Fraction

from toolroad.errors import MillError
from toolroad.papers import is_held, paper_of
from toolroad.plans import is_plan, quickest
from toolroad.roads import road_of
from toolroad.ways import way_of
from telling import GREATER, OTHER_THINGS, Telling
from test_limits import EAST, NORTH, way_along
from test_plans import Slow, handed, small_way, some_limits
from test_ways import made_up


def holders(way, plan, limits):
    """For each joint all the joints that hold its gear, by the words of the document."""
    slow = Slow(way, **limits)
    gears = [plan[0][0], *[last for _, _, last in plan]] if plan else [0]
    found = []
    for k, gear in enumerate(gears):
        some = []
        for h, cap in enumerate(slow.joints):
            each, between = (slow.up, range(h, k)) if h < k else (slow.down, range(k, h))
            if gear == cap + sum(0 if slow.fars[at] is None else slow.fars[at] // each for at in between):
                some.append(h)
        found.append(some)
    return found


class PaperOfTest(Telling):
    def paper(self, due, *parts, **limits):
        way = way_along(*parts)
        with self.subTest(way=way, limits=limits):
            before = repr(way)
            paper = paper_of(way, **limits)
            self.assertIs(paper.__class__, list)
            self.told(paper, due)
            self.told(repr(way), before)
            self.assertIs(is_held(way, quickest(way, **limits), paper, **limits), True)

    def test_the_only_papers(self):
        self.paper([0])
        self.paper([0, 1, 2], ("line", 9, EAST, 3), ("line", 9, NORTH, 3))
        # The gear 3 in the middle: up from the first joint by 3, or the cap 5 of the line behind it.
        self.paper([0, 0, 2], ("line", 9, EAST, 3), ("line", 5, EAST, 9))
        self.paper([0, 1, 2], ("line", 9, EAST, 9), ("line", 5, EAST, 9))
        self.paper([0, 2, 2], ("line", 9, EAST, 9), ("line", 9, EAST, 2))
        # Up by 3, and down by 1 from the last one, over an arc.
        arc = ("arc", 9, (0, -50), NORTH, 1)
        self.paper([0, 3, 3, 3], ("line", 9, EAST, 3), arc, ("line", 9, NORTH, 1))
        self.paper([0, 0, 0, 3], ("line", 9, EAST, 3), arc, ("line", 9, NORTH, 9))

    def test_any_paper_of_many_ways(self):
        chance = random.Random(47)
        for _ in range(300):
            way = small_way(chance, chance.randrange(9))
            limits = some_limits(chance)
            due = holders(way, quickest(way, **handed(limits)), limits)
            paper = paper_of(way, **handed(limits))
            with self.subTest(way=way, limits=limits):
                self.assertEqual(len(paper), len(due))
                for joint, some in zip(paper, due):
                    self.assertIn(joint, some)

    def test_three_hundred_entries(self):
        chance = random.Random(53)
        way = small_way(chance, 300)
        limits = some_limits(chance)
        paper, plan = paper_of(way, **handed(limits)), quickest(way, **handed(limits))
        self.assertEqual(len(paper), 301)
        self.assertTrue(all(joint in some for joint, some in zip(paper, holders(way, plan, limits))))
        self.assertIs(is_held(way, plan, paper, **handed(limits)), True)

    def test_each_list_is_the_askers_own(self):
        way = way_along(("line", 9, EAST, 3))
        paper_of(way).append(7)
        self.told(paper_of(way), [0, 1])


class IsHeldTest(Telling):
    def test_from_either_side(self):
        # Eight gears up from the first joint just reach what 4 lets down to the last.
        way = way_along(("line", 9, EAST, 8), ("line", 9, EAST, 4))
        plan = quickest(way)
        self.told(plan, [(0, 8, 8), (8, 8, 0)])
        self.assertIs(is_held(way, plan, [0, 0, 2]), True)
        self.assertIs(is_held(way, plan, [0, 2, 2]), True)
        self.assertIs(is_held(way, plan, [0, 1, 2]), False)
        way = way_along(("line", 8, EAST, 8), ("line", 9, EAST, 4))
        for joint in range(3):
            self.assertIs(is_held(way, quickest(way), [0, joint, 2]), True)

    def test_over_several_entries(self):
        arc = ("arc", 9, (0, -50), NORTH, 1)
        way = way_along(("line", 9, EAST, 3), arc, ("line", 9, NORTH, 2), ("line", 9, NORTH, Fraction(1, 3)),
                        ("line", 9, NORTH, 4))
        plan = quickest(way)
        self.told(plan, [(0, 3, 3), (3, 3, 3), (3, 5, 5), (5, 5, 5), (5, 6, 0)])
        # A third of a length lets no gear be changed: rounded down for each line, not for all of them together.
        self.assertIs(is_held(way, plan, [0, 0, 0, 0, 0, 5]), True)
        for at in range(1, 5):
            for joint in range(1, 6):
                paper = [0, 0, 0, 0, 0, 5]
                paper[at] = joint
                self.assertIs(is_held(way, plan, paper), joint in holders(way, plan, {})[at])

    def test_each_number_otherwise(self):
        chance = random.Random(59)
        said = {True: 0, False: 0}
        for _ in range(100):
            way = small_way(chance, chance.randrange(1, 6))
            limits = some_limits(chance)
            plan = quickest(way, **handed(limits))
            paper = paper_of(way, **handed(limits))
            due = holders(way, plan, limits)
            for at in range(len(paper)):
                for joint in range(-2, len(paper) + 2):
                    other = paper[:at] + [joint] + paper[at + 1:]
                    said[joint in due[at]] += 1
                    self.assertIs(is_held(way, plan, other, **handed(limits)), joint in due[at], (way, other, limits))
        self.assertGreater(min(said.values()), 300)

    def test_slower_plans(self):
        """No paper holds a plan of lesser gears, whatever numbers stand in it."""
        chance = random.Random(61)
        slower = 0
        for _ in range(150):
            way = small_way(chance, chance.randrange(1, 4))
            best = quickest(way)
            for plan in Slow(way).plans()[:40]:
                some = holders(way, plan, {})
                self.assertEqual(plan == best, all(some) and self.tops(way, plan))
                if all(some):
                    paper = [joints[0] for joints in some]
                    self.assertIs(is_held(way, plan, paper), plan == best)
                self.assertIs(is_held(way, plan, paper_of(way)), plan == best)
                slower += plan != best
        self.assertGreater(slower, 300)

    def tops(self, way, plan):
        slow = Slow(way)
        return all(top == max(one[1] for one in slow.gears(k, first) if one[2] == last)
                   for k, (first, top, last) in enumerate(plan))

    def test_tops_that_are_not_as_great_as_can_be(self):
        way = way_along(("line", 9, EAST, 9), ("line", 5, EAST, 9))
        plan, paper = quickest(way), paper_of(way)
        self.told(plan, [(0, 7, 5), (5, 5, 0)])
        self.assertIs(is_held(way, plan, paper), True)
        for other in ([(0, 6, 5), (5, 5, 0)], [(0, 5, 5), (5, 5, 0)]):
            self.assertIs(is_plan(way, other), True)
            self.assertIs(is_held(way, other, paper), False)
        self.assertIs(is_held(way, [(0, 8, 5), (5, 5, 0)], paper), False)
        self.assertIs(is_held(way, [(0, 7, 5), (5, 6, 0)], paper), False)

    def test_joints_that_are_not_as_great_as_can_be(self):
        way = way_along(("line", 9, EAST, 9), ("line", 5, EAST, 9))
        for gear in range(5):
            top = max(one[1] for one in Slow(way).gears(0, 0) if one[2] == gear)
            plan = [(0, top, gear), (gear, 5, 0)]
            self.assertIs(is_plan(way, plan), True)
            for joint in range(3):
                self.assertIs(is_held(way, plan, [0, joint, 2]), False)

    def test_no_entries(self):
        self.assertIs(is_held([], [], [0]), True)
        for plan, thing in [([], []), ([], [1]), ([], [0, 0]), ([], [False]), ([], None), ([(0, 0, 0)], [0]), ((), [0]),
                            ([], (0,)), ([], [-1]), (None, [0]), ([(0, 0, 0)], [0, 0])]:
            self.assertIs(is_held([], plan, thing), False)

    def test_any_two_things(self):
        way = way_along(("line", 9, EAST, 9), ("line", 5, EAST, 9))
        plan, paper = quickest(way), paper_of(way)
        for thing in [*OTHER_THINGS, plan, paper[:-1], paper[1:], paper + [2], [*paper, 0], tuple(paper), [False, 1, 2],
                      [0, True, 2], [0, 1, 3], [0, 1, -1], [-3, 1, 2], [0, -2, 2], [0, 1, GREATER], [0, (1, 1), 2],
                      [0, 1, (2,)], ["0", "1", "2"], [None] * 3, [[0], [1], [2]], [0, 1, None], [[0, 1, 2]], "012",
                      [GREATER] * 3]:
            with self.subTest(str(thing)[:80]):
                self.assertIs(is_held(way, plan, thing), False)
        for thing in [*OTHER_THINGS, paper, tuple(plan), [list(gears) for gears in plan], plan[:-1], plan + plan[:1],
                      [(0, 7, 5), (5, True, 0)], [(False, 7, 5), (5, 5, 0)], [(0, 7, 5), (5, 5, 0, 0)], [plan]]:
            with self.subTest(str(thing)[:80]):
                self.assertIs(is_held(way, thing, paper), False)
                self.assertIs(is_held(way, thing, thing), False)

    def test_nothing_is_changed(self):
        way = way_along(("line", 9, EAST, 9), ("line", 5, EAST, 9))
        plan, paper = quickest(way), paper_of(way)
        due = repr((way, plan, paper))
        is_held(way, plan, paper)
        is_held(way, plan, paper[::-1])
        self.told(repr((way, plan, paper)), due)

    def test_limits_by_name(self):
        way = way_along(("line", 9, EAST, 6), ("arc", 9, (0, -2), NORTH, 1), ("line", 9, NORTH, 6),
                        ("line", 9, EAST, 2))
        limits = {"pull": (8, 1), "jolt": (3, 1), "up": (1, 3), "down": (1, 5)}
        plan, paper = quickest(way, **limits), paper_of(way, **limits)
        self.assertIs(is_held(way, plan, paper, **limits), True)
        for name in limits:
            less = {other: limit for other, limit in limits.items() if other != name}
            self.assertIs(is_held(way, plan, paper, **less), False, name)
            self.assertIs(is_held(way, quickest(way, **less), paper_of(way, **less), **less), True)
        self.assertIs(is_held(way, quickest(way), paper_of(way)), True)

    def test_ways_of_programs(self):
        chance = random.Random(67)
        for _ in range(300):
            try:
                way = way_of(road_of(made_up(chance)))
            except MillError:
                continue
            self.assertIs(is_held(way, quickest(way), paper_of(way)), True)


if __name__ == "__main__":
    unittest.main()
