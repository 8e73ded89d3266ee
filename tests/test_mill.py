import random
import unittest

from toolroad.amounts import number_text
from toolroad.errors import (Away, Gouge, Lifted, MillError, NoFrame, NoPiece, NoText, TooDeep, TooMany, Uneven, Unled,
                             Unmet)
from toolroad.mill import Mill
from toolroad.roads import Road, road_of
from toolroad.states import State, read_state, road_from, state_at
from toolroad.ways import way_of
from telling import GREATER, Telling, place
from test_ways import made_up

O = place(0, 0)
SQUARE = "hop 1 1\npace 4\nside -1/2\ncut 5 1\ncut 5 5\nside 0\nhop 0 0\nby\nleft 0 3 1 1\nright 0 3/2 1 0\nhop . ."
LOG = ["hop 1,1/2", "line 5,1/2", "left 5,1 11/2,1", "line 11/2,5", "hop 0,0", "left 0,3 3,3", "right 3,9/2 3,6",
       "hop 3,6"]
NUMBERS = [0, 1, 1, 2, 3, 4, 5, 6]


class Own(Exception):
    """What a deed is refused with, of its own."""


def answers(mill):
    """All that a mill tells."""
    return (mill.done(), len(mill), mill.spot(), mill.is_down(), str(mill.state()), mill.log())


class MillTest(Telling):
    def stands(self, mill, done, down, more=()):
        """The mill of SQUARE has done so many, and its log has more behind the texts of these."""
        self.told(mill.done(), done)
        self.told(len(mill), 8 - done)
        self.told(mill.is_down(), down)
        self.told(mill.log(), LOG[:done] + list(more))
        number = NUMBERS[done] if done < 8 else 7
        self.assertEqual(mill.state(), state_at(SQUARE, number))
        self.assertIs(mill.state().__class__, State)


class DoingTest(MillTest):
    def test_one_by_one(self):
        mill = Mill(SQUARE)
        self.stands(mill, 0, False)
        self.told(mill.spot(), O)
        spots = [place(1, "1/2"), place(5, "1/2"), place("11/2", 1), place("11/2", 5), O, place(3, 3), place(3, 6),
                 place(3, 6)]
        for k, down in enumerate([False, True, True, True, False, True, True, False]):
            self.told(mill.do(), 1)
            self.stands(mill, k + 1, down)
            self.told(mill.spot(), spots[k])
        for many in (0, 1, 5):
            self.told(mill.do(many), 0)
        self.told(mill.do(), 0)
        self.stands(mill, 8, False)

    def test_some_at_once(self):
        for first in range(10):
            for then in range(10):
                mill = Mill(SQUARE)
                self.told(mill.do(first), min(first, 8))
                self.told(mill.do(many=then), min(then, 8 - min(first, 8)))
                other = Mill(SQUARE)
                for _ in range(first + then):
                    other.do()
                self.told(answers(mill), answers(other))

    def test_more_than_are_left(self):
        for many in (8, 9, 100, GREATER):
            mill = Mill(SQUARE)
            self.told(mill.do(many), 8)
            self.stands(mill, 8, False)
            self.told(mill.do(many), 0)

    def test_none(self):
        mill = Mill(SQUARE)
        self.told(mill.do(0), 0)
        self.stands(mill, 0, False)
        mill.do(2)
        self.told(mill.do(0), 0)
        self.stands(mill, 2, True)

    def test_a_road_of_none(self):
        for text in ("", "by", "side 3\npace 3\nflip"):
            mill = Mill(text)
            self.told(answers(mill), (0, 0, O, False, str(state_at(text, 0)), []))
            self.told((mill.do(), mill.do(0), mill.do(5)), (0, 0, 0))
            mill.leave()
            mill.take_up()
            self.told(answers(mill), (0, 0, O, False, str(state_at(text, 0)), ["hop 0,0", "hop 0,0"]))

    def test_a_cut_first_of_all(self):
        mill = Mill("cut 5 0\nby\nleft 0 2 0 1")
        self.told((mill.spot(), mill.is_down()), (O, False))
        mill.do()
        self.told((mill.spot(), mill.is_down()), (place(5, 0), True))
        mill.do()
        self.told((mill.spot(), mill.is_down(), mill.log()), (place(5, 0), True, ["line 5,0", "left 5,2 5,0"]))

    def test_texts_of_numbers(self):
        mill = Mill("hop -1/3 7/2\nby\nright -3/7 4/7 1 2\nrun 1 2 1/2")
        mill.do(3)
        log = mill.log()
        self.told(log[0], "hop -1/3,7/2")
        arc, line = [entry[0] for entry in way_of(road_of("hop -1/3 7/2\nby\nright -3/7 4/7 1 2\nrun 1 2 1/2"))][1:]
        x, y = map(number_text, arc[2])
        self.told(log[1], f"right -16/21,57/14 {x},{y}")
        self.told(log[2], "line " + ",".join(map(number_text, line[2])))

    def test_the_state_at_a_corners_arc(self):
        mill = Mill(SQUARE)
        mill.do(2)
        # The arc round the corner is led by the cut ahead of it.
        self.assertEqual(mill.state(), state_at(SQUARE, 1))
        self.told(str(mill.state()), "3:0 1,1 from 4 -1/2 -")
        mill.do()
        self.assertEqual(mill.state(), state_at(SQUARE, 2))

    def test_refused_as_the_road_and_as_the_way(self):
        for text, kind, values in [
            ("by\n" * 80, TooMany, {"most": 80}), ("hopp", NoText, {"at": 0}), (None, NoText, {"at": 0}),
            (5, NoText, {"at": 0}),
            ("call a 1", NoPiece, {"name": "a"}), ("cut 1 1", Uneven, {"row": 0}), ("by\nback", NoFrame, {"row": 1}),
            ("call a 1\npiece a\ncall a 1\nend", TooDeep, {"row": 2}),
            ("call a 99\npiece a\nhop 1 1\nhop 1 1\nend", TooMany, {"most": 100}),
            ("side 1\ncut 5 0", Unled, {"number": 0}), ("hop 0 0\nside 5\ncut 4 0\ncut 4 9", Gouge, {"number": 1}),
            ("hop 0 0\nside 1\nby\nrun 0 1 4\nleft -2 0 1 1", Unmet, {"number": 1}),
            # The road goes ahead of the way.
            ("side 1\ncut 5 0\ncut 6 1", Uneven, {"row": 2}), ("side 1\ncut 5 0\nback", NoFrame, {"row": 2}),
        ]:
            self.refused(kind, values, Mill, text)

    def test_many_programs(self):
        chance = random.Random(89)
        runs = 0
        while runs < 100:
            text = made_up(chance)
            try:
                way = way_of(road_of(text))
            except MillError as refused:
                self.refused(refused.__class__, vars(refused), Mill, text)
                continue
            runs += 1
            mill = Mill(text)
            road = road_of(text)
            log = []
            for k, (step, _, number) in enumerate([*way, (None, 0, len(road))]):
                self.told((mill.done(), len(mill)), (k, len(way) - k))
                self.told(mill.spot(), way[k - 1][0][2] if k else O)
                self.told(mill.is_down(), k > 0 and way[k - 1][0][0] != "hop")
                state = mill.state()
                self.assertEqual(state, state_at(text, number))
                self.assertEqual(road_from(text, read_state(text, str(state))), Road(road.entries()[number:]))
                self.told(mill.log(), log)
                if step:
                    spots = [",".join(map(number_text, spot)) for spot in step[2:4]]
                    log.append(f"{step[0]} {spots[0]}" if len(step) == 3 else
                               f"{'left' if step[4] == 1 else 'right'} {spots[1]} {spots[0]}")
                    mill.do()

    def test_each_answer_is_the_askers_own(self):
        mill = Mill(SQUARE)
        mill.do(3)
        due = answers(mill)
        mill.log().clear()
        mill.log().append("more")
        state = mill.state()
        state.pace, state.frames, state.trail = 0, (), ()
        self.told(answers(mill), due)
        log = mill.log()
        mill.do(2)
        self.told(log, due[5])


class LeavingTest(MillTest):
    def test_left_and_taken_up(self):
        for done in range(9):
            mill, other = Mill(SQUARE), Mill(SQUARE)
            mill.do(done)
            other.do(done)
            self.told(mill.leave(), None)
            spot = other.spot()
            self.told(mill.spot(), O)
            self.stands(mill, done, False, ["hop 0,0"])
            self.told(mill.take_up(), None)
            back = "hop " + ",".join(map(number_text, spot))
            self.told(mill.spot(), spot)
            self.stands(mill, done, other.is_down(), ["hop 0,0", back])
            # It goes on as if it had never been left.
            mill.do(2)
            other.do(2)
            self.told(mill.log(), LOG[:done] + ["hop 0,0", back] + LOG[done:done + 2])
            self.told(answers(mill)[:5], answers(other)[:5])

    def test_left_often(self):
        mill = Mill(SQUARE)
        mill.do(2)
        for many in range(1, 4):
            mill.leave()
            mill.take_up()
            self.stands(mill, 2, True, ["hop 0,0", "hop 5,1/2"] * many)

    def test_away(self):
        mill = Mill(SQUARE)
        for done in range(9):
            self.refused(Away, {}, mill.take_up)
            due = answers(mill)
            self.refused(Away, {}, mill.take_up)
            self.told(answers(mill), due)
            mill.leave()
            due = answers(mill)
            self.refused(Away, {}, mill.leave)
            for many in (0, 1, 5, GREATER):
                self.refused(Away, {}, mill.do, many)
            self.refused(Away, {}, mill.do)
            self.told(answers(mill), due)
            mill.take_up()
            self.refused(Away, {}, mill.take_up)
            self.told(mill.done(), done)
            mill.do()


class LiftedTest(MillTest):
    def test_what_the_deed_tells_is_told(self):
        mill = Mill(SQUARE)
        for thing in (None, 5, True, "text", [1, [2]], (), Own):
            self.assertIs(mill.lifted(lambda one, told=thing: told), thing)

        def deed(one):
            return one.done(), one is mill

        mill.do(3)
        self.told(mill.lifted(deed), (3, True))
        self.assertIsNone(mill.lifted(lambda one: None))

    def test_within(self):
        for done in range(9):
            mill, other = Mill(SQUARE), Mill(SQUARE)
            mill.do(done)
            other.do(done)
            due = answers(other)
            told = mill.lifted(answers)
            self.told(told, due[:3] + (False,) + due[4:])
            self.told(answers(mill), due)

    def refusals(self, mill):
        """All that a lifted mill refuses."""
        due = answers(mill)
        for many in (0, 1, 5, GREATER):
            self.refused(Lifted, {}, mill.do, many)
        self.refused(Lifted, {}, mill.do)
        self.refused(Lifted, {}, mill.leave)
        self.refused(Lifted, {}, mill.take_up)
        self.told(answers(mill), due)
        return "all"

    def test_refused_within(self):
        for done in (0, 1, 3, 8):
            mill = Mill(SQUARE)
            mill.do(done)
            due = answers(mill)
            self.told(mill.lifted(self.refusals), "all")
            self.told(answers(mill), due)
            # Ahead of Away.
            mill.leave()
            due = answers(mill)
            self.told(mill.lifted(self.refusals), "all")
            self.told(answers(mill), due)
            self.refused(Away, {}, mill.do, 0)
            mill.take_up()
            self.told(mill.do(), 1 if done < 8 else 0)

    def test_what_a_deed_is_refused_with_comes_out(self):
        def raises(error):
            def deed(one):
                raise error
            return deed

        mill = Mill(SQUARE)
        for done in range(9):
            due = answers(mill)
            for error in (Own("x"), ValueError("x"), KeyError("x"), ZeroDivisionError(), StopIteration(),
                          RecursionError(),
                          TypeError(), Away("x"), Gouge(3), MillError(), AttributeError(), KeyboardInterrupt(),
                          SystemExit(),
                          GeneratorExit(), BaseException()):
                with self.assertRaises(BaseException) as caught:
                    mill.lifted(raises(error))
                self.assertIs(caught.exception, error)
                self.told(answers(mill), due)
            self.refused(Lifted, {}, mill.lifted, lambda one: one.do())
            self.refused(Lifted, {}, mill.lifted, lambda one: one.do(0))
            self.refused(Lifted, {}, mill.lifted, lambda one: one.leave())
            self.refused(Lifted, {}, mill.lifted, lambda one: one.take_up())
            for deed, kind in [(lambda one: [][0], IndexError), (lambda one: {}["x"], KeyError),
                               (lambda one: 1 // 0, ZeroDivisionError),
                               (lambda one: one.nothing(), AttributeError), (lambda one, two: one, TypeError),
                               (lambda: 5, TypeError)]:
                with self.assertRaises(kind):
                    mill.lifted(deed)
            self.told(answers(mill), due)
            mill.do()

    def test_a_deed_without_end(self):
        def deed(one):
            return one.lifted(deed)

        mill = Mill(SQUARE)
        mill.do(2)
        with self.assertRaises(RecursionError):
            mill.lifted(deed)
        self.stands(mill, 2, True)
        self.told(mill.do(), 1)

    def test_within_one_another(self):
        mill = Mill(SQUARE)
        mill.do(2)

        def inner(one):
            self.refusals(one)
            return one.is_down()

        def failing(one):
            self.refusals(one)
            raise Own

        def outer(one):
            told = [one.is_down(), one.lifted(inner), one.is_down()]
            self.refusals(one)
            with self.assertRaises(Own):
                one.lifted(failing)
            # Still lifted behind the inner one, whatever became of it.
            self.refusals(one)
            return told + [one.is_down(), one.lifted(lambda again: again.lifted(lambda third: third.done()))]

        self.told(mill.lifted(outer), [False, False, False, False, 2])
        self.stands(mill, 2, True)
        with self.assertRaises(Own):
            mill.lifted(lambda one: one.lifted(failing))
        self.stands(mill, 2, True)
        self.told(mill.do(), 1)

    def test_while_left(self):
        mill = Mill(SQUARE)
        mill.do(2)
        mill.leave()
        self.told(mill.lifted(lambda one: (one.spot(), one.is_down(), one.done(), one.lifted(lambda two: two.spot()))),
                  (O, False, 2, O))
        with self.assertRaises(Own):
            mill.lifted(self.fail_own)
        self.stands(mill, 2, False, ["hop 0,0"])
        self.refused(Away, {}, mill.leave)
        mill.take_up()
        self.stands(mill, 2, True, ["hop 0,0", "hop 5,1/2"])

    def fail_own(self, mill):
        raise Own

    def test_a_deed_kept_for_later(self):
        """What a deed told goes on behind it by no means lifted."""
        mill = Mill(SQUARE)
        later = mill.lifted(lambda one: one.do)
        self.told(later(2), 2)

        def deed(one):
            yield one.do()

        self.told(list(mill.lifted(deed)), [1])
        self.stands(mill, 3, True)


class TwoMillsTest(MillTest):
    def test_by_turns(self):
        one, other = Mill(SQUARE), Mill("hop 3 4\ncut 3 8")
        alone, too = Mill(SQUARE), Mill("hop 3 4\ncut 3 8")
        for k in range(4):
            one.do()
            if k == 1:
                other.leave()
                other.take_up()
            if k == 2:
                other.do()
        alone.do(4)
        too.leave()
        too.take_up()
        too.do()
        self.told(answers(one), answers(alone))
        self.told(answers(other), answers(too))

    def test_two_of_one_program(self):
        one, other = Mill(SQUARE), Mill(SQUARE)
        one.do(3)
        one.leave()
        self.stands(other, 0, False)

    def test_one_asked_within_the_other_ones_lifted(self):
        one, other = Mill(SQUARE), Mill(SQUARE)
        one.do(2)
        other.do(1)

        def deed(lifted):
            told = [other.do(), other.is_down(), lifted.is_down()]
            other.leave()
            self.refused(Away, {}, other.do, 0)
            other.take_up()
            self.refused(Lifted, {}, lifted.do, 0)
            told.append(other.lifted(lambda two: (two.is_down(), one.is_down())))
            self.refused(Lifted, {}, other.lifted, lambda two: lifted.do())
            return told + [other.do()]

        self.told(one.lifted(deed), [1, True, False, (False, False), 1])
        self.stands(one, 2, True)
        self.told(other.log(), LOG[:2] + ["hop 0,0", "hop 5,1/2", LOG[2]])
        self.told(one.do(), 1)


if __name__ == "__main__":
    unittest.main()
