"""The whole program, from a text to its road, its way, its gears and its mill."""

import random
import unittest

from toolroad.ahead import Ahead
from toolroad.chords import are_chords, chords
from toolroad.errors import MillError
from toolroad.limits import entry_caps, joint_caps
from toolroad.mill import Mill
from toolroad.papers import is_held, paper_of
from toolroad.plans import is_plan, quickest
from toolroad.roads import Road, road_of
from toolroad.rows import program_text, read_program
from toolroad.states import read_state, road_from, state_at
from toolroad.steps import is_step
from toolroad.ways import way_of
from telling import Telling, place
from test_ahead import plan_by
from test_ways import made_up

# A plate with two slots that are called, one of them mirrored, and its own edge cut from without.
PLATE = """pace 6
side -1/2
hop 0 0
cut 12 0
by
left 0 3 1 1
run 1 1 9
from
cut 0 12
cut 0 0
side 0
call pair 2
hop 0 0
piece slot
hop 2 2
by
pace 5
run 0 1 4
left 0 1 1 0
run 1 0 4
left 0 -1 1 0
from
end
piece pair
shift 1 0
call slot 1
flip
shift 0 -10
call slot 1
end"""


class PlateTest(Telling):
    def test_its_road(self):
        self.told(program_text(read_program(PLATE)), PLATE)
        road = road_of(PLATE)
        self.told(len(road), 27)
        self.told(road.entries()[6], (("hop", place(0, 0), place(3, 2)), 6, (0, 1), ((11, 0), (25, 0), (14, 0))))
        # In the second turn the first one's frames are gone.
        self.told(road.entries()[11][0][2], place(3, 8))
        self.told(road.entries()[16][0][2], place(3, 2))
        self.told(road.entries()[13][0][4], -1)

    def test_its_way(self):
        way = way_of(road_of(PLATE))
        self.told([(step[0], number) for step, _, number in way[:10]], [
            ("hop", 0), ("line", 1), ("arc", 2), ("line", 3), ("arc", 3), ("line", 4), ("arc", 4), ("line", 5),
            ("arc", 5),
            ("hop", 6)])
        self.told(way[2][0], ("arc", place(12, "-1/2"), place("31/2", 3), place(12, 3), 1))
        self.told(way[9][0], ("hop", place(0, "-1/2"), place(3, 2)))

    def test_its_gears(self):
        way = way_of(road_of(PLATE))
        self.told(entry_caps(way)[:10], [0, 6, 2, 6, 1, 6, 1, 6, 1, 0])
        self.told(joint_caps(way)[:11], [0, 0, 2, 2, 1, 1, 1, 1, 1, 0, 0])
        self.told(quickest(way)[:10], [(0, 0, 0), (0, 6, 2), (2, 2, 2), (2, 6, 1), (1, 1, 1), (1, 6, 1), (1, 1, 1),
                                       (1, 6, 0),
                                       (0, 0, 0), (0, 0, 0)])
        self.assertIs(is_held(way, quickest(way), paper_of(way)), True)

    def test_a_mill_told_from_a_state(self):
        mill = Mill(PLATE)
        mill.do(20)
        state = read_state(PLATE, str(mill.state()))
        rest = road_from(PLATE, state)
        number = way_of(road_of(PLATE))[20][2]
        self.told(rest.entries(), road_of(PLATE).entries()[number:])
        self.told(mill.do(99), len(way_of(road_of(PLATE))) - 20)
        self.told((mill.spot(), mill.is_down(), len(mill)), (place(0, 0), False, 0))
        self.assertEqual(road_from(PLATE, mill.state()), Road([]))


class ManyProgramsTest(Telling):
    def test_from_text_to_paper(self):
        chance = random.Random(97)
        whole = refused = 0
        for _ in range(500):
            text = made_up(chance)
            try:
                road = road_of(text)
                way = way_of(road)
            except MillError as error:
                refused += 1
                self.refused(error.__class__, vars(error), Mill, text)
                continue
            whole += 1
            with self.subTest(text):
                self.no_gap(way)
                self.gears(way, chance)
                self.states(text, road, chance)
        self.assertGreater(min(whole, refused), 50)

    def no_gap(self, way):
        for one, other in zip(way, way[1:]):
            self.assertEqual(one[0][2], other[0][1])
        for step, _, _ in way:
            self.assertTrue(is_step(step))
            if step[0] == "arc":
                self.assertIs(are_chords(step, chords(step, within=(1, 25)), within=(1, 25)), True)

    def gears(self, way, chance):
        plan, paper = quickest(way), paper_of(way)
        self.assertIs(is_plan(way, plan), True)
        self.assertIs(is_held(way, plan, paper), True)
        self.told(plan_by(300, way), plan)
        by_few = plan_by(chance.randrange(1, 4), way)
        self.assertIs(is_plan(way, by_few), True)
        self.assertTrue(all(few <= most for one, other in zip(by_few, plan) for few, most in zip(one, other)))
        self.assertIs(is_held(way, by_few, paper), by_few == plan)

    def states(self, text, road, chance):
        """Whoever goes on by a state's text, however often it is handed on, does the very same rest."""
        number, due = 0, road.entries()
        while number < len(road):
            state = state_at(text, number)
            rest = road_from(text, read_state(text, str(state)))
            self.told(rest.entries(), due[number:])
            number += chance.randrange(1, 4)


class GreatTest(Telling):
    def test_numbers_of_some_hundreds_of_figures(self):
        text = "hop 3 4\npace 9" + "\nleft 0 0 97 98\nleft 0 0 95 98\nleft 0 0 93 98" * 22
        road = road_of(text)
        self.assertGreater(len(str(road.entries()[-1][0][2][0][0])), 200)
        way = way_of(road)
        plan = quickest(way)
        self.assertIs(is_held(way, plan, paper_of(way)), True)
        state = state_at(text, 60)
        self.assertEqual(read_state(text, str(state)), state)
        self.told(road_from(text, state).entries(), road.entries()[60:])
        mill = Mill(text)
        mill.do(60)
        self.assertGreater(len(mill.log()[-1]), 500)
        mill.leave()
        mill.take_up()
        self.assertEqual(mill.state(), state)
        step = way[-1][0]
        self.assertIs(are_chords(step, chords(step, within=(1, 200)), within=(1, 200)), True)

    def test_a_way_that_is_taken_up_by_two_aheads(self):
        way = way_of(road_of(PLATE))
        told, other = Ahead(3), Ahead(3)
        plan = []
        for entry in way:
            plan += told.feed(entry)
            other.feed(entry)
        self.told(plan + told.close(), plan_by(3, way))
        self.assertEqual(len(other), min(3, len(way) - 1 - max(k for k, one in enumerate(way) if one[0][0] == "hop")))


if __name__ == "__main__":
    unittest.main()
