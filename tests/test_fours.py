"""Promise 20, and 2 and 3 where they speak of it: calls danced on halves of even floors."""

import copy
import random
import unittest

from samples import answer_of, is_refusal, opposite_stand, others, some_call, some_even_floor, with_stand
from squarecall.dances import danced
from squarecall.errors import Blind, FloorError, Meet, Out
from squarecall.floors import HOME
from squarecall.fours import danced_half
from squarecall.halves import half, is_even, whole
from squarecall.rules import read_call
from squarecall.turnings import turned

FOUR = HOME[:4]

# Each dancer of the four with a corner of their own, or near one.
WIDE = ((200, 200, 0), (-200, 198, 1), (197, -3, 2), (-2, 200, 3))


def danced_text(text, four=FOUR):
    return danced_half(four, read_call(text))


def a_step_back(stand):
    x, y, facing = stand
    east, north = ((0, 1), (-1, 0), (0, -1), (1, 0))[facing]
    return (x - east, y - north, facing)


def some_half(source, kind):
    """Four stands of an even floor: near the middle, about it, or near the bounds."""
    if kind == 0:
        return some_even_floor(source, 2)[:4]
    if kind == 1:
        return some_even_floor(source)[:4]
    spots = source.sample([(x, y) for x in range(195, 201) for y in (*range(-200, -196), *range(197, 201))], 4)
    four = [(x, y, source.randrange(4)) for x, y in spots]
    return tuple(stand if source.randrange(2) else opposite_stand(stand) for stand in four)


def many_halves(count):
    source = random.Random(7)
    return [(some_half(source, place % 3), some_call(source)) for place in range(count)]


class HalfTest(unittest.TestCase):
    def told(self, text, behind, four=FOUR):
        with self.subTest(text=text):
            self.assertEqual(danced_text(text, four), behind)
            self.assertEqual(danced(whole(four), read_call(text)), whole(behind))

    def refused(self, text, told, four=FOUR):
        with self.subTest(text=text):
            self.assertEqual(answer_of(danced_text, text, four), told)
            self.assertEqual(answer_of(danced, whole(four), read_call(text)), told)


class Told(HalfTest):
    def test_each_step(self):
        self.told("> stay", FOUR)
        self.told("> ahead 1", ((-1, -2, 0), (1, -2, 0), (2, -1, 1), (2, 1, 1)))
        self.told("> back 9", ((-1, -12, 0), (1, -12, 0), (12, -1, 1), (12, 1, 1)))
        self.told("> left 3", ((-4, -3, 0), (-2, -3, 0), (3, -4, 1), (3, -2, 1)))
        self.told("> right 1", ((0, -3, 0), (2, -3, 0), (3, 0, 1), (3, 2, 1)))
        self.told("> turn left", ((-1, -3, 1), (1, -3, 1), (3, -1, 2), (3, 1, 2)))
        self.told("> turn right", ((-1, -3, 3), (1, -3, 3), (3, -1, 0), (3, 1, 0)))
        self.told("> turn about", ((-1, -3, 2), (1, -3, 2), (3, -1, 3), (3, 1, 3)))
        self.told("> back 1 turn left ahead 2 right 3", ((-3, -1, 1), (-1, -1, 1), (1, -3, 2), (1, -1, 2)))

    def test_across_the_middle(self):
        self.told("> ahead 6", ((-1, 3, 0), (1, 3, 0), (-3, -1, 1), (-3, 1, 1)))

    def test_tests_of_the_dancer(self):
        heads = ((-1, -3, 1), (1, -3, 1)) + FOUR[2:]
        self.told("head > turn left ; > stay", heads)
        self.told("not side > turn left ; side > stay", heads)
        self.told("lefts > turn left ; rights > stay", ((-1, -3, 1), FOUR[1], (3, -1, 2), FOUR[3]))
        self.told("inner 3 > stay ; > turn left", FOUR)
        self.told("inner 2 > turn left ; > stay", FOUR)

    def test_drifts(self):
        four = ((5, 0, 1), (0, 4, 0), (7, 2, 2), (-6, -6, 3))
        self.told("inward > turn left ; outward > turn right ; sideways > turn about",
                  ((5, 0, 2), (0, 4, 3), (7, 2, 0), (-6, -6, 1)), four)

    def test_all_eight_are_seen(self):
        # Dancer 0 sees dancer 5 six ahead, dancer 2 sees 7, and 7 stands two ahead and two to the left of 0.
        self.told("at 6 0 about > turn left ; > stay", ((-1, -3, 1), (1, -3, 1), (3, -1, 2), (3, 1, 2)))
        self.told("at 6 2 opposite > turn left ; > stay", ((-1, -3, 1), FOUR[1], (3, -1, 2), FOUR[3]))
        self.told("at 6 -2 opposite > turn left ; > stay", (FOUR[0], (1, -3, 1), FOUR[2], (3, 1, 2)))
        self.told("at 0 2 partner > turn left ; > stay", ((-1, -3, 1), FOUR[1], (3, -1, 2), FOUR[3]))
        self.told("at 2 -2 right > turn left ; > stay", ((-1, -3, 1), FOUR[1], (3, -1, 2), FOUR[3]))
        self.told("at 2 2 left > turn left ; > stay", (FOUR[0], (1, -3, 1), FOUR[2], (3, 1, 2)))
        self.told("at 2 -2 any > turn left ; at 2 -2 none > turn right",
                  ((-1, -3, 1), (1, -3, 3), (3, -1, 2), (3, 1, 0)))
        self.told("at 0 -2 same > turn left ; > stay", (FOUR[0], (1, -3, 1), FOUR[2], (3, 1, 2)))

    def test_opposites_exchanged(self):
        self.told("lefts > ahead 6 right 2 ; > ahead 6 left 2", ((1, 3, 0), (-1, 3, 0), (-3, 1, 1), (-3, -1, 1)))

    def test_at_the_bounds(self):
        four = ((200, -191, 2), (-200, 150, 2), (0, 199, 0), (191, 0, 3))
        self.told("head > ahead 9 ; lefts > ahead 1 ; > ahead 9",
                  ((200, -200, 2), (-200, 141, 2), (0, 200, 0), (200, 0, 3)), four)
        self.told("> stay", WIDE, WIDE)
        self.told("> turn left", tuple((x, y, (facing + 1) % 4) for x, y, facing in WIDE), WIDE)

    def test_beside_the_middle(self):
        four = ((1, 0, 0), (0, 1, 0), (1, 1, 0), (2, 1, 0))
        self.told("> ahead 1 turn left", ((1, 1, 1), (0, 2, 1), (1, 2, 1), (2, 2, 1)), four)

    def test_kinds_and_arguments(self):
        told = danced_half(four=FOUR, call=read_call("> ahead 1"))
        self.assertIs(type(told), tuple)
        self.assertEqual([type(stand) for stand in told], [tuple] * 4)


class Refused(HalfTest):
    def test_blind(self):
        self.refused("inner 2 > stay", ("Blind", 0))
        self.refused("head > stay", ("Blind", 2))
        self.refused("head > stay ; lefts > stay", ("Blind", 3))
        self.refused("lefts > stay", ("Blind", 1))
        self.refused("side > stay ; at 0 2 partner > stay", ("Blind", 1))

    def test_blind_comes_ahead_of_out_and_of_meet(self):
        self.refused("rights > stay ; head > ahead 9", ("Blind", 2), ((200, 200, 0),) + FOUR[1:])
        self.refused("side and rights > stay ; head > ahead 3", ("Blind", 2))

    def test_out(self):
        # Beyond each of the four bounds, on the half itself and by the opposite alone.
        for stand in ((200, 5, 3), (-200, 5, 1), (5, 200, 0), (5, -200, 2)):
            for dancer in range(4):
                four = with_stand(((9, 1, 0), (9, 2, 0), (9, 3, 0), (9, 4, 0)), dancer, stand)
                self.refused("> ahead 1", ("Out", dancer), four)
                self.refused("> ahead 1 back 1", ("Out", dancer), four)
                self.told("> back 1", tuple(a_step_back(place) for place in four), four)

    def test_out_the_least(self):
        four = ((9, 1, 0), (200, 2, 3), (9, 3, 0), (-200, 4, 1))
        self.refused("> ahead 1", ("Out", 1), four)
        # Dancers 3 and 6 walk north: 6 goes beyond, and so does its opposite 2, walking south.
        four = ((9, 1, 0), (9, 2, 0), (5, -200, 2), (5, 9, 0))
        self.refused("> ahead 1", ("Out", 2), four)

    def test_out_comes_ahead_of_meet(self):
        self.refused("head > ahead 3 ; lefts > ahead 3 ; > back 9", ("Out", 3), with_stand(FOUR, 3, (196, 1, 1)))

    def test_two_of_the_four_meet(self):
        self.refused("lefts > right 1 ; > left 1", ("Meet", 0, 1))
        self.refused("head > stay ; lefts > right 1 ; > left 1", ("Meet", 2, 3))
        self.refused("head and rights > ahead 2 ; side and lefts > ahead 2 ; > stay", ("Meet", 1, 2))

    def test_one_meets_another_ones_opposite(self):
        self.refused("> ahead 3", ("Meet", 0, 5))
        self.refused("> ahead 2", ("Meet", 0, 7))
        self.refused("head > stay ; > ahead 3", ("Meet", 2, 7))
        self.refused("side > stay ; lefts > ahead 6 ; > stay", ("Meet", 0, 5))

    def test_one_meets_the_opposite_on_the_spot_amid_the_floor(self):
        self.refused("head and lefts > ahead 3 right 1 ; > stay", ("Meet", 0, 4))
        self.refused("head and rights > ahead 3 left 1 ; > stay", ("Meet", 1, 5))
        self.refused("side and lefts > ahead 3 right 1 ; > stay", ("Meet", 2, 6))
        self.refused("side and rights > ahead 3 left 1 ; > stay", ("Meet", 3, 7))
        self.refused("head > stay ; lefts > ahead 3 right 1 ; > ahead 3 left 1", ("Meet", 2, 3))

    def test_one_passes_over_the_spot_amid_the_floor(self):
        self.told("head and lefts > ahead 3 right 1 ahead 1 ; > stay", ((0, 1, 0),) + FOUR[1:])

    def test_each_is_a_floor_error_and_none_of_the_others(self):
        for text, kind in (("head > stay", Blind), ("> ahead 3", Meet), ("> back 9 back 9", Out)):
            with self.assertRaises(kind) as taken:
                danced_text(text, tuple((200 - dancer, 190, 2) for dancer in range(4)) if kind is Out else FOUR)
            self.assertIsInstance(taken.exception, FloorError)
            self.assertNotIsInstance(taken.exception, others(kind))


class Whole(HalfTest):
    def test_many_as_the_whole_floor_danced(self):
        seen = []
        for four, call in many_halves(900):
            with self.subTest(four=four, call=call):
                behind = answer_of(danced, whole(four), call)
                told = answer_of(danced_half, four, call)
                if is_refusal(behind):
                    self.assertEqual(told, behind)
                    seen.append((behind[0], behind[1:] in [(one, one + 4) for one in range(4)]))
                else:
                    self.assertIs(is_even(behind), True)
                    self.assertEqual(told, half(behind))
                    seen.append(("floor", False))
        # Else the samples would leave a sort of answer untried.
        for kind in (("floor", False), ("Blind", False), ("Out", False), ("Meet", False), ("Meet", True)):
            self.assertGreater(seen.count(kind), 9, kind)

    def test_halves_turned_about(self):
        for four, call in many_halves(300):
            told = answer_of(danced_half, four, call)
            for quarters in (1, 2, 3):
                with self.subTest(four=four, call=call, quarters=quarters):
                    behind = told if is_refusal(told) else turned(told, quarters)
                    self.assertEqual(answer_of(danced_half, turned(four, quarters), call), behind)

    def test_call_by_call(self):
        # Four dancers tell all eight, however many calls are danced.
        source = random.Random(3)
        for place in range(40):
            floor = some_even_floor(source)
            four = floor[:4]
            for step in range(5):
                call = some_call(source)
                behind = answer_of(danced, floor, call)
                told = answer_of(danced_half, four, call)
                with self.subTest(four=four, call=call):
                    self.assertEqual(told, behind if is_refusal(behind) else behind[:4])
                if not is_refusal(behind):
                    floor = behind
                    four = told

    def test_nothing_handed_in_is_changed(self):
        for four, call in many_halves(60):
            before = copy.deepcopy(call)
            first = answer_of(danced_half, four, call)
            self.assertEqual(call, before)
            self.assertEqual(answer_of(danced_half, four, call), first)


if __name__ == "__main__":
    unittest.main()
