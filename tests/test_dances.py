"""Promises 12, 13, 14, and 2 and 3 where they speak of one call: a call danced, and the ways of it."""

import itertools
import random
import unittest

from samples import floor_with, many, some_call, some_even_floor, with_stand
from squarecall.dances import danced, ways
from squarecall.errors import Blind, FloorError, Meet, Out
from squarecall.floors import HOME, is_floor
from squarecall.halves import is_even
from squarecall.rules import read_call
from squarecall.sights import holds
from squarecall.turnings import turned

NORTH = complex(0, 1)


def answer(doing, floor, call, some=None):
    """What is told, or the refusal with its fields."""
    try:
        return doing(floor, call, some)
    except (Blind, Out) as error:
        return (type(error).__name__, error.who)
    except Meet as error:
        return ("Meet", error.one, error.other)


def model_way(stand, steps):
    """The stands of a way, reckoned as the document tells it, with points of the plane in the stead of tables."""
    spot, ahead = complex(stand[0], stand[1]), NORTH * NORTH ** stand[2]
    way = [stand]
    for word, *more in steps:
        if word == "stay":
            continue
        if word == "turn":
            ahead *= {"left": NORTH, "about": -1, "right": -NORTH}[more[0]]
        else:
            spot += more[0] * {"ahead": ahead, "back": -ahead, "left": ahead * NORTH, "right": -ahead * NORTH}[word]
        facing = [turn for turn in range(4) if NORTH * NORTH ** turn == ahead][0]
        way.append((int(spot.real), int(spot.imag), facing))
    return way


def model_ways(floor, call, some):
    dancing = range(8) if some is None else sorted(some)
    rules = {dancer: [steps for tests, steps in call if all(holds(floor, dancer, test) for test in tests)]
             for dancer in dancing}
    for dancer in dancing:
        if not rules[dancer]:
            return ("Blind", dancer)
    told = [[stand] for stand in floor]
    for dancer in dancing:
        told[dancer] = model_way(floor[dancer], rules[dancer][0])
        if any(max(abs(x), abs(y)) > 200 for x, y, facing in told[dancer]):
            return ("Out", dancer)
    return told


def model_danced(floor, call, some):
    told = model_ways(floor, call, some)
    if isinstance(told, tuple):
        return told
    behind = tuple(way[-1] for way in told)
    for one, other in itertools.product(range(8), range(8)):
        if one != other and behind[one][:2] == behind[other][:2]:
            return ("Meet", one, other)
    return behind


class Model(unittest.TestCase):
    def test_many_floors_and_calls_as_the_model_tells_them(self):
        source = random.Random(12)
        seen = []
        for floor, call in many(600):
            some = source.choice((None, None, [], [source.randrange(8)], source.sample(range(8), 5)))
            with self.subTest(floor=floor, call=call, some=some):
                told = answer(danced, floor, call, some)
                self.assertEqual(told, model_danced(floor, call, some))
                self.assertEqual(answer(ways, floor, call, some), model_ways(floor, call, some))
                seen.append(told[0] if isinstance(told[0], str) else "floor")
        # Else the samples would leave a sort of answer untried.
        for kind in ("floor", "Blind", "Out", "Meet"):
            self.assertGreater(seen.count(kind), 20, kind)


class Danced(unittest.TestCase):
    def test_all_ahead(self):
        told = ((-1, -2, 0), (1, -2, 0), (2, -1, 1), (2, 1, 1), (1, 2, 2), (-1, 2, 2), (-2, 1, 3), (-2, -1, 3))
        self.assertEqual(danced(HOME, read_call("> ahead 1")), told)

    def test_each_step_by_each_facing(self):
        floor = floor_with({0: (10, 20, 0), 1: (30, 20, 1), 2: (50, 20, 2), 3: (70, 20, 3)})
        told = {
            "ahead 3": ((10, 23, 0), (27, 20, 1), (50, 17, 2), (73, 20, 3)),
            "back 3": ((10, 17, 0), (33, 20, 1), (50, 23, 2), (67, 20, 3)),
            "left 3": ((7, 20, 0), (30, 17, 1), (53, 20, 2), (70, 23, 3)),
            "right 3": ((13, 20, 0), (30, 23, 1), (47, 20, 2), (70, 17, 3)),
            "turn left": ((10, 20, 1), (30, 20, 2), (50, 20, 3), (70, 20, 0)),
            "turn right": ((10, 20, 3), (30, 20, 0), (50, 20, 1), (70, 20, 2)),
            "turn about": ((10, 20, 2), (30, 20, 3), (50, 20, 0), (70, 20, 1)),
            "stay": floor[:4],
        }
        for text, four in told.items():
            with self.subTest(text=text):
                self.assertEqual(danced(floor, read_call("> " + text), [0, 1, 2, 3]), four + floor[4:])

    def test_steps_in_their_order_by_the_facing_by_then(self):
        floor = floor_with({0: (10, 20, 0)})
        told = {
            "ahead 2 turn left ahead 3": (7, 22, 1),
            "turn left ahead 2 ahead 3": (5, 20, 1),
            "turn left ahead 2 turn left ahead 3": (8, 17, 2),
            "ahead 2 ahead 3 turn left": (10, 25, 1),
            "left 2 turn about left 5": (13, 20, 2),
            "turn right back 4 right 1": (6, 19, 3),
            "turn about turn left turn left ahead 1": (10, 21, 0),
            "ahead 1 turn right ahead 1 turn right ahead 1 turn right ahead 1 turn right": (10, 20, 0),
        }
        for text, stand in told.items():
            with self.subTest(text=text):
                self.assertEqual(danced(floor, read_call("> " + text), [0]), with_stand(floor, 0, stand))

    def test_each_takes_the_first_rule_that_holds(self):
        call = read_call("head and lefts > ahead 1 ; head > stay ; lefts > turn left ; > back 1")
        told = ((-1, -2, 0), (1, -3, 0), (3, -1, 2), (4, 1, 1), (1, 2, 2), (-1, 3, 2), (-3, 1, 0), (-4, -1, 3))
        self.assertEqual(danced(HOME, call), told)

    def test_all_by_the_floor_ahead_of_the_call(self):
        # Dancer 0 goes off ahead of dancer 1, and dancer 2 comes up; dancer 1 sees them as they stood.
        floor = floor_with({0: (0, 1, 0), 1: (0, 0, 0), 2: (0, -2, 0)})
        call = read_call("at 1 0 any > ahead 1 ; at -1 0 any > ahead 5 ; > ahead 2")
        told = with_stand(with_stand(with_stand(floor, 0, (0, 6, 0)), 1, (0, 1, 0)), 2, (0, 0, 0))
        self.assertEqual(danced(floor, call, [0, 1, 2]), told)

    def test_tests_are_not_asked_again_between_the_steps(self):
        floor = floor_with({0: (0, 0, 0), 1: (0, 3, 0)})
        call = read_call("at 1 0 none > ahead 1 ahead 1 ahead 5 ; > turn left")
        self.assertEqual(danced(floor, call, [0]), with_stand(floor, 0, (0, 7, 0)))

    def test_a_floor_is_told(self):
        told = danced(HOME, read_call("> ahead 1"))
        self.assertIs(is_floor(told), True)
        for floor, call in many():
            told = answer(danced, floor, call)
            if not isinstance(told[0], str):
                self.assertIs(is_floor(told), True)

    def test_pass_through_one_another(self):
        # Each couple goes all through the floor and the opposite couple.
        told = ((-1, 3, 0), (1, 3, 0), (-3, -1, 1), (-3, 1, 1), (1, -3, 2), (-1, -3, 2), (3, 1, 3), (3, -1, 3))
        self.assertEqual(danced(HOME, read_call("> ahead 6")), told)
        self.assertEqual(danced(HOME, read_call("> ahead 1 ahead 2 ahead 3")), told)

    def test_pass_over_one_spot_at_the_same_step(self):
        floor = floor_with({0: (0, 0, 3), 1: (2, 0, 1)})
        told = with_stand(with_stand(floor, 0, (2, 0, 3)), 1, (0, 0, 1))
        self.assertEqual(danced(floor, read_call("> ahead 1 ahead 1"), [0, 1]), told)

    def test_pass_through_those_who_stay(self):
        floor = floor_with({0: (0, 0, 0), 1: (0, 1, 0), 2: (0, 2, 0)})
        self.assertEqual(danced(floor, read_call("> ahead 1 ahead 1 ahead 1"), [0]), with_stand(floor, 0, (0, 3, 0)))
        call = read_call("lefts and at 1 0 any > ahead 9 ; > stay")
        self.assertEqual(danced(floor, call), with_stand(floor, 0, (0, 9, 0)))

    def test_two_change_places(self):
        told = (HOME[1], HOME[0], HOME[3], HOME[2], HOME[5], HOME[4], HOME[7], HOME[6])
        self.assertEqual(danced(HOME, read_call("lefts > right 2 ; > left 2")), told)

    def test_one_comes_where_another_one_goes_off(self):
        floor = tuple((x, 0, 3) for x in range(8))
        self.assertEqual(danced(floor, read_call("> ahead 1")), tuple((x + 1, 0, 3) for x in range(8)))
        self.assertEqual(danced(floor, read_call("> back 1")), tuple((x - 1, 0, 3) for x in range(8)))

    def test_arguments_as_they_are_called(self):
        call = read_call("> turn left")
        self.assertEqual(danced(some=[0], call=call, floor=HOME), with_stand(HOME, 0, (-1, -3, 1)))
        self.assertEqual(ways(some=[], call=call, floor=HOME), [[stand] for stand in HOME])


class Some(unittest.TestCase):
    def test_in_any_order(self):
        call = read_call("> back 1")
        told = (HOME[0], (1, -4, 0), HOME[2], (4, 1, 1), HOME[4], HOME[5], HOME[6], (-4, -1, 3))
        for some in itertools.permutations((1, 3, 7)):
            with self.subTest(some=some):
                self.assertEqual(danced(HOME, call, list(some)), told)

    def test_one_dancer(self):
        for dancer in range(8):
            x, y, facing = HOME[dancer]
            with self.subTest(dancer=dancer):
                self.assertEqual(danced(HOME, read_call("> turn left"), [dancer]),
                                 with_stand(HOME, dancer, (x, y, (facing + 1) % 4)))

    def test_without_any(self):
        for text in ("> ahead 1", "inner 0 > stay", "> ahead 9 ahead 9"):
            with self.subTest(text=text):
                self.assertEqual(danced(HOME, read_call(text), []), HOME)
                self.assertEqual(ways(HOME, read_call(text), []), [[stand] for stand in HOME])

    def test_all_eight_and_none_told(self):
        call = read_call("head > turn left ; > back 2")
        for some in (None, list(range(8)), [7, 6, 5, 4, 3, 2, 1, 0]):
            self.assertEqual(danced(HOME, call, some), danced(HOME, call))
        self.assertNotEqual(danced(HOME, call), HOME)

    def test_those_who_stay_are_seen(self):
        floor = floor_with({0: (0, 0, 0), 5: (0, 1, 0)})
        call = read_call("at 1 0 any > turn left ; > turn right")
        self.assertEqual(danced(floor, call, [0]), with_stand(floor, 0, (0, 0, 1)))

    def test_without_a_rule_for_those_who_stay(self):
        call = read_call("head > back 1")
        told = ((-1, -4, 0), (1, -4, 0)) + HOME[2:4] + ((1, 4, 2), (-1, 4, 2)) + HOME[6:]
        self.assertEqual(danced(HOME, call, [5, 0, 4, 1]), told)


class Refused(unittest.TestCase):
    def test_blind(self):
        for text, some, who in (
            ("inner 2 > stay", None, 0), ("head > stay", None, 2), ("side > stay", None, 0), ("lefts > stay", None, 1),
            ("head > stay", [7, 3, 0], 3), ("head > stay", [7, 0], 7), ("head and lefts > stay", [4, 0, 5], 5),
            ("inner 2 > stay", [7, 6, 5], 5), ("inner 2 > stay", [6], 6),
        ):
            with self.subTest(text=text, some=some):
                self.assertEqual(answer(danced, HOME, read_call(text), some), ("Blind", who))
                self.assertEqual(answer(ways, HOME, read_call(text), some), ("Blind", who))

    def test_out_on_each_side(self):
        call = read_call("> ahead 2")
        for facing, (x, y) in enumerate(((0, 200), (-200, 0), (0, -200), (200, 0))):
            inside = (x - (x > 0) * 2 + (x < 0) * 2, y - (y > 0) * 2 + (y < 0) * 2, facing)
            nearly = (x - (x > 0) + (x < 0), y - (y > 0) + (y < 0), facing)
            for dancer in range(8):
                with self.subTest(facing=facing, dancer=dancer):
                    floor = floor_with({dancer: inside})
                    self.assertEqual(danced(floor, call, [dancer]), with_stand(floor, dancer, (x, y, facing)))
                    for stand in (nearly, (x, y, facing)):
                        floor = floor_with({dancer: stand})
                        self.assertEqual(answer(danced, floor, call, [dancer]), ("Out", dancer))
                        self.assertEqual(answer(ways, floor, call, [dancer]), ("Out", dancer))

    def test_out_by_each_step(self):
        floor = floor_with({3: (200, 200, 0)})
        for text, out in (("ahead 1", True), ("right 1", True), ("left 1", False), ("back 1", False),
                          ("turn left", False), ("stay", False), ("turn left back 1", True), ("turn left right 1", True)):
            with self.subTest(text=text):
                told = answer(danced, floor, read_call("> " + text), [3])
                self.assertEqual(told == ("Out", 3), out)

    def test_out_in_the_midst_of_a_way_that_comes_back(self):
        floor = floor_with({3: (200, 0, 3)})
        for text in ("ahead 1 back 1", "ahead 1 turn about ahead 1", "back 5 ahead 6 back 1", "ahead 9 back 9 back 9",
                     "turn left right 3 left 3", "turn right left 1 right 1", "turn about back 1 ahead 2"):
            with self.subTest(text=text):
                call = read_call("> " + text)
                self.assertEqual(answer(danced, floor, call, [3]), ("Out", 3))
                self.assertEqual(answer(ways, floor, call, [3]), ("Out", 3))

    def test_a_step_within_the_bounds_is_not_out(self):
        floor = floor_with({3: (200, 0, 3)})
        self.assertEqual(danced(floor, read_call("> back 1 ahead 1"), [3]), floor)

    def test_out_of_several_is_the_least(self):
        floor = floor_with({6: (200, 0, 3), 3: (0, 200, 0), 5: (0, -200, 2)})
        for some in ([3, 5, 6], [6, 5, 3], [5, 3, 6], [6, 3]):
            self.assertEqual(answer(danced, floor, read_call("> ahead 1"), some), ("Out", 3))
        self.assertEqual(answer(danced, floor, read_call("> ahead 1"), [6, 5, 0]), ("Out", 5))
        self.assertEqual(answer(danced, floor, read_call("> ahead 1")), ("Out", 3))

    def test_out_of_the_least_and_not_of_the_first_step(self):
        floor = floor_with({6: (200, 0, 3), 3: (199, 5, 3)})
        self.assertEqual(answer(danced, floor, read_call("> ahead 1 ahead 1"), [6, 3]), ("Out", 3))

    def test_those_who_stay_on_the_bounds_are_not_out(self):
        floor = floor_with({6: (200, 200, 3), 3: (0, 0, 0)})
        self.assertEqual(danced(floor, read_call("> ahead 1"), [3]), with_stand(floor, 3, (0, 1, 0)))

    def test_meet_of_two_who_dance(self):
        floor = floor_with({2: (0, 0, 3), 5: (2, 0, 1)})
        self.assertEqual(answer(danced, floor, read_call("> ahead 1"), [5, 2]), ("Meet", 2, 5))
        self.assertEqual(answer(danced, floor, read_call("> ahead 1")), ("Meet", 2, 5))

    def test_meet_of_one_who_dances_with_one_who_stays(self):
        for one, other in itertools.permutations(range(8), 2):
            with self.subTest(one=one, other=other):
                floor = floor_with({one: (0, 0, 3), other: (2, 0, 1)})
                told = ("Meet", min(one, other), max(one, other))
                self.assertEqual(answer(danced, floor, read_call("> ahead 2"), [one]), told)

    def test_meet_of_one_with_one_whose_rule_is_to_stay(self):
        floor = floor_with({4: (0, 0, 3), 7: (2, 0, 1)})
        self.assertEqual(answer(danced, floor, read_call("lefts and at 2 0 any > ahead 2 ; > stay")), ("Meet", 4, 7))

    def test_meet_of_several(self):
        # Dancers 0 and 4 come to one spot; 2, 3, 6 and 7 come to another one.
        floor = floor_with({0: (0, 0, 0), 4: (0, 2, 2), 2: (9, 0, 0), 3: (9, 2, 2), 6: (8, 1, 3), 7: (10, 1, 1)})
        self.assertEqual(answer(danced, floor, read_call("> ahead 1"), [0, 2, 3, 4, 6, 7]), ("Meet", 0, 4))
        self.assertEqual(answer(danced, floor, read_call("> ahead 1"), [7, 6, 3, 2]), ("Meet", 2, 3))
        self.assertEqual(answer(danced, floor, read_call("> ahead 1"), [7, 6, 3]), ("Meet", 3, 6))
        self.assertEqual(answer(danced, floor, read_call("> ahead 1"), [7, 6]), ("Meet", 6, 7))
        # 5 and 6 meet, and 1 meets 7, the greatest of all.
        floor = floor_with({5: (0, 0, 0), 6: (0, 2, 2), 1: (9, 0, 0), 7: (9, 2, 2)})
        self.assertEqual(answer(danced, floor, read_call("> ahead 1"), [5, 6, 1, 7]), ("Meet", 1, 7))

    def test_meet_whatever_the_facings(self):
        for turn in range(4):
            floor = floor_with({0: (0, 0, 0), 1: (0, 1, turn)})
            self.assertEqual(answer(danced, floor, read_call("> ahead 1"), [0]), ("Meet", 0, 1))

    def test_blind_comes_ahead_of_out_and_meet(self):
        # Dancer 0 would be out, 1 and 2 would meet, and 7 has no rule.
        floor = floor_with({0: (0, 200, 0), 1: (0, 0, 0), 2: (0, 2, 2), 7: (50, 50, 0)})
        call = read_call("inner 49 > ahead 1 ; not inner 50 > ahead 1")
        self.assertEqual(answer(danced, floor, call), ("Blind", 7))
        self.assertEqual(answer(ways, floor, call), ("Blind", 7))
        self.assertEqual(answer(danced, floor, call, [0, 7]), ("Blind", 7))
        self.assertEqual(answer(danced, floor, call, [2, 1, 7]), ("Blind", 7))
        self.assertEqual(answer(danced, floor, call, [2, 1, 0]), ("Out", 0))

    def test_out_comes_ahead_of_meet(self):
        floor = floor_with({7: (0, 200, 0), 1: (0, 0, 0), 2: (0, 2, 2)})
        call = read_call("> ahead 1")
        self.assertEqual(answer(danced, floor, call), ("Out", 7))
        self.assertEqual(answer(danced, floor, call, [1, 2, 7]), ("Out", 7))
        self.assertEqual(answer(danced, floor, call, [1, 2]), ("Meet", 1, 2))

    def test_each_is_just_its_own_class(self):
        for floor, text, kind in ((HOME, "inner 2 > stay", Blind), (HOME, "> ahead 3", Meet),
                                  (with_stand(HOME, 0, (0, -200, 2)), "> ahead 1", Out)):
            with self.subTest(kind=kind):
                with self.assertRaises(FloorError) as taken:
                    danced(floor, read_call(text))
                self.assertIs(type(taken.exception), kind)

    def test_what_is_refused_changes_nothing(self):
        call = read_call("> ahead 3")
        before = list(call)
        some = [4, 1, 6, 3]
        for attempt in range(2):
            self.assertEqual(answer(danced, HOME, call), ("Meet", 0, 5))
            self.assertEqual(answer(danced, HOME, call, some), ("Meet", 1, 4))
            self.assertEqual(call, before)
            self.assertEqual(some, [4, 1, 6, 3])


class Ways(unittest.TestCase):
    def test_each_step_has_its_stand(self):
        call = read_call("head and lefts > ahead 2 turn left ahead 1 ; head > stay ; lefts > turn about ; > left 1 right 1")
        self.assertEqual(ways(HOME, call), [
            [(-1, -3, 0), (-1, -1, 0), (-1, -1, 1), (-2, -1, 1)],
            [(1, -3, 0)],
            [(3, -1, 1), (3, -1, 3)],
            [(3, 1, 1), (3, 0, 1), (3, 1, 1)],
            [(1, 3, 2), (1, 1, 2), (1, 1, 3), (2, 1, 3)],
            [(-1, 3, 2)],
            [(-3, 1, 3), (-3, 1, 1)],
            [(-3, -1, 3), (-3, 0, 3), (-3, -1, 3)],
        ])

    def test_a_step_of_nine_is_one_stand(self):
        self.assertEqual(ways(HOME, read_call("> back 9"), [0])[0], [(-1, -3, 0), (-1, -12, 0)])

    def test_eight_steps(self):
        told = ways(HOME, read_call("> " + " ".join(["turn left"] * 8)), [0])[0]
        self.assertEqual(told, [(-1, -3, turn % 4) for turn in range(9)])

    def test_those_who_do_not_dance(self):
        told = ways(HOME, read_call("> turn left"), [6, 1])
        self.assertEqual([len(way) for way in told], [1, 2, 1, 1, 1, 1, 2, 1])
        self.assertEqual([way[0] for way in told], list(HOME))
        self.assertEqual((told[1][1], told[6][1]), ((1, -3, 1), (-3, 1, 0)))

    def test_who_meets_is_not_looked_at(self):
        self.assertEqual(answer(danced, HOME, read_call("> ahead 3")), ("Meet", 0, 5))
        told = ways(HOME, read_call("> ahead 3"))
        self.assertEqual([way[-1][:2] for way in told],
                         [(-1, 0), (1, 0), (0, -1), (0, 1), (1, 0), (-1, 0), (0, 1), (0, -1)])
        floor = floor_with({0: (0, 0, 0), 1: (0, 1, 0)})
        self.assertEqual(ways(floor, read_call("> ahead 1"), [0])[:2], [[(0, 0, 0), (0, 1, 0)], [(0, 1, 0)]])

    def test_they_end_on_the_danced_floor(self):
        for floor, call in many():
            told = answer(danced, floor, call)
            if not isinstance(told[0], str):
                self.assertEqual(tuple(way[-1] for way in ways(floor, call)), told)

    def test_kinds(self):
        told = ways(HOME, read_call("head > ahead 1 ; > stay"))
        self.assertEqual([type(told)] + [type(way) for way in told], [list] * 9)
        self.assertEqual([type(stand) for way in told for stand in way], [tuple] * 12)


class Own(unittest.TestCase):
    def test_what_is_handed_in_stays(self):
        call = read_call("head > ahead 1 ; > turn left turn left")
        before = list(call)
        some = [5, 2, 0]
        for doing in (danced, ways):
            doing(HOME, call, some)
            self.assertEqual(some, [5, 2, 0])
            self.assertEqual(call, before)
        self.assertEqual(HOME[0], (-1, -3, 0))

    def test_changing_what_is_told_changes_no_later_answer(self):
        call = read_call("head > ahead 1 ; > stay")
        told = ways(HOME, call)
        again = ways(HOME, call)
        for way in told:
            way.append(None)
            way[0] = None
        told.clear()
        self.assertEqual(ways(HOME, call), again)
        self.assertEqual(again[0], [(-1, -3, 0), (-1, -2, 0)])
        again[2].append((0, 0, 0))
        self.assertEqual([again[3], again[6]], [[HOME[3]], [HOME[6]]])
        self.assertEqual(call, read_call("head > ahead 1 ; > stay"))

    def test_changing_later_what_was_handed_in_changes_no_answer(self):
        call = read_call("> turn left")
        some = [1, 2]
        told = ways(HOME, call, some)
        floor = danced(HOME, call, some)
        call[0] = ((), (("stay",),))
        some.clear()
        self.assertEqual([len(way) for way in told], [1, 2, 2, 1, 1, 1, 1, 1])
        self.assertEqual(floor[:3], ((-1, -3, 0), (1, -3, 1), (3, -1, 2)))
        self.assertEqual(danced(HOME, read_call("> turn left"), [1, 2]), floor)
        self.assertEqual(danced(HOME, call, [1, 2]), HOME)


class Turned(unittest.TestCase):
    def test_danced_on_a_floor_turned(self):
        source = random.Random(14)
        for floor, call in many():
            some = source.choice((None, source.sample(range(8), 4)))
            told = answer(danced, floor, call, some)
            for quarters in (1, 2, 3, -1):
                with self.subTest(floor=floor, call=call, some=some, quarters=quarters):
                    other = answer(danced, turned(floor, quarters), call, some)
                    self.assertEqual(other, told if isinstance(told[0], str) else turned(told, quarters))

    def test_the_ways_on_a_floor_turned(self):
        for floor, call in many():
            told = answer(ways, floor, call)
            for quarters in (1, 2, 3, -1):
                other = answer(ways, turned(floor, quarters), call)
                if isinstance(told, list):
                    self.assertEqual(other, [list(turned(tuple(way), quarters)) for way in told])
                else:
                    self.assertEqual(other, told)

    def test_an_even_floor_stays_even(self):
        source = random.Random(3)
        count = 0
        for place in range(400):
            floor, call = some_even_floor(source), some_call(source)
            four = source.sample(range(4), source.randrange(5))
            some = source.choice((None, four + [dancer + 4 for dancer in four]))
            told = answer(danced, floor, call, some)
            if not isinstance(told[0], str):
                with self.subTest(floor=floor, call=call, some=some):
                    self.assertIs(is_even(told), True)
                count += told != floor
        self.assertGreater(count, 50)

    def test_home_stays_even(self):
        for text in ("> ahead 1", "lefts > right 2 ; > left 2", "head > ahead 2 ; > turn left", "> ahead 6",
                     "lefts and head > back 4 turn left ; at 6 2 opposite > left 5 ; > stay"):
            self.assertIs(is_even(danced(HOME, read_call(text))), True)


if __name__ == "__main__":
    unittest.main()
