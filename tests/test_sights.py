"""Promises 10 and 12, and 2 where it speaks of them: which tests hold, and the first rule that does."""

import unittest

from samples import floor_with, many
from squarecall.floors import HOME
from squarecall.rules import read_call
from squarecall.sights import holds, rule_for

WHATS = ("none", "any", "same", "left", "about", "right", "partner", "opposite")

# From (10, 20), facing by facing: the spots three ahead and two to the right, and so on.
SEEN = {
    (3, 2): ((12, 23), (7, 22), (8, 17), (13, 18)),
    (3, -2): ((8, 23), (7, 18), (12, 17), (13, 22)),
    (-3, 2): ((12, 17), (13, 22), (8, 23), (7, 18)),
    (-3, -2): ((8, 17), (13, 18), (12, 23), (7, 22)),
    (1, 0): ((10, 21), (9, 20), (10, 19), (11, 20)),
    (-1, 0): ((10, 19), (11, 20), (10, 21), (9, 20)),
    (0, 1): ((11, 20), (10, 21), (9, 20), (10, 19)),
    (0, -1): ((9, 20), (10, 19), (11, 20), (10, 21)),
    (9, -9): ((1, 29), (1, 11), (19, 11), (19, 29)),
    (0, 9): ((19, 20), (10, 29), (1, 20), (10, 11)),
}


class HoldsTest(unittest.TestCase):
    def told(self, floor, dancer, test, answer):
        with self.subTest(floor=floor, dancer=dancer, test=test):
            self.assertIs(holds(floor, dancer, test), answer)
            self.assertIs(holds(floor, dancer, ("not", test)), not answer)

    def just(self, floor, dancer, ahead, right, whats):
        for what in WHATS:
            self.told(floor, dancer, ("at", ahead, right, what), what in whats)


class At(HoldsTest):
    def test_nobody_there(self):
        for facing in range(4):
            for ahead, right in SEEN:
                self.just(floor_with({3: (10, 20, facing)}), 3, ahead, right, ("none",))

    def test_somebody_there_by_each_facing(self):
        # Dancer 5 is neither partner nor opposite of dancer 3.
        for (ahead, right), spots in SEEN.items():
            for facing in range(4):
                x, y = spots[facing]
                for turn, what in enumerate(("same", "left", "about", "right")):
                    floor = floor_with({3: (10, 20, facing), 5: (x, y, (facing + turn) % 4)})
                    self.just(floor, 3, ahead, right, ("any", what))

    def test_somebody_on_another_spot_alone(self):
        for facing in range(4):
            for other, spots in SEEN.items():
                x, y = spots[facing]
                floor = floor_with({3: (10, 20, facing), 5: (x, y, facing)})
                for ahead, right in SEEN:
                    if (ahead, right) != other:
                        self.just(floor, 3, ahead, right, ("none",))

    def test_each_dancer_seen_by_each_other(self):
        for dancer in range(8):
            for other in range(8):
                if other == dancer:
                    continue
                whats = ["any", "same"]
                if other == dancer + 1 - 2 * (dancer % 2):
                    whats.append("partner")
                if other == (dancer + 4) % 8:
                    whats.append("opposite")
                for facing in range(4):
                    for (ahead, right), spots in SEEN.items():
                        x, y = spots[facing]
                        floor = floor_with({dancer: (10, 20, facing), other: (x, y, facing)})
                        self.just(floor, dancer, ahead, right, whats)

    def test_partners_and_opposites_on_the_floor_home(self):
        for dancer in range(8):
            self.just(HOME, dancer, 0, 2 if dancer % 2 == 0 else -2, ("any", "same", "partner"))
            self.just(HOME, dancer, 6, 2 if dancer % 2 == 0 else -2, ("any", "about", "opposite"))
            self.just(HOME, dancer, 6, 0, ("any", "about"))
            self.just(HOME, dancer, -1, 0, ("none",))
        self.just(HOME, 0, 4, -2, ("any", "right"))
        self.just(HOME, 0, 4, 4, ("any", "left"))

    def test_beyond_the_bounds(self):
        corners = ((200, 200), (-200, 200), (-200, -200), (200, -200))
        # By facing: whose corner lies ahead and to the right.
        for facing, place in ((0, 0), (1, 1), (2, 2), (3, 3)):
            x, y = corners[place]
            floor = floor_with({6: (x, y, facing)})
            for ahead, right in ((1, 0), (0, 1), (1, 1), (9, 9), (9, -9), (-9, 9)):
                self.just(floor, 6, ahead, right, ("none",))

    def test_no_spot_of_the_other_side_is_seen(self):
        floor = floor_with({6: (200, 0, 3), 1: (-200, 0, 3), 2: (-199, 0, 3)})
        self.just(floor, 6, 1, 0, ("none",))
        self.just(floor, 6, 2, 0, ("none",))

    def test_somebody_on_the_bounds(self):
        floor = floor_with({6: (191, 191, 0), 1: (200, 200, 2)})
        self.just(floor, 6, 9, 9, ("any", "about"))


class Dancers(HoldsTest):
    def test_heads_and_sides(self):
        for dancer in range(8):
            for floor in (HOME, floor_with({})):
                self.told(floor, dancer, ("head",), dancer in (0, 1, 4, 5))
                self.told(floor, dancer, ("side",), dancer in (2, 3, 6, 7))

    def test_lefts_and_rights(self):
        for dancer in range(8):
            for floor in (HOME, floor_with({})):
                self.told(floor, dancer, ("lefts",), dancer in (0, 2, 4, 6))
                self.told(floor, dancer, ("rights",), dancer in (1, 3, 5, 7))


class Inner(HoldsTest):
    def test_neither_beyond(self):
        for x, y, least in ((0, 0, 0), (1, 0, 1), (0, 1, 1), (-1, 0, 1), (0, -1, 1), (3, 5, 5), (5, 3, 5), (-3, 5, 5),
                            (3, -5, 5), (-5, -3, 5), (-7, -7, 7), (-7, 2, 7), (2, -7, 7), (200, -200, 200), (-200, 0, 200)):
            for facing in range(4):
                floor = floor_with({4: (x, y, facing)})
                for wide in (0, 1, 2, 3, 4, 5, 6, 7, 8, 199, 200):
                    self.told(floor, 4, ("inner", wide), wide >= least)

    def test_the_own_spot_counts_alone(self):
        floor = floor_with({4: (2, 2, 0), 0: (50, 50, 0)})
        self.told(floor, 4, ("inner", 2), True)
        self.told(floor, 0, ("inner", 2), False)


class InwardOutwardSideways(HoldsTest):
    def told_of(self, x, y, words):
        for facing, word in enumerate(words):
            floor = floor_with({2: (x, y, facing)})
            for test in ("inward", "outward", "sideways"):
                self.told(floor, 2, (test,), test == word)

    def test_on_the_four_sides(self):
        # Facings: north, west, south, east.
        self.told_of(0, 5, ("outward", "sideways", "inward", "sideways"))
        self.told_of(-5, 0, ("sideways", "outward", "sideways", "inward"))
        self.told_of(0, -5, ("inward", "sideways", "outward", "sideways"))
        self.told_of(5, 0, ("sideways", "inward", "sideways", "outward"))
        self.told_of(2, 5, ("outward", "sideways", "inward", "sideways"))
        self.told_of(-2, -5, ("inward", "sideways", "outward", "sideways"))

    def test_a_step_from_where_both_are_equal(self):
        self.told_of(4, 5, ("outward", "sideways", "inward", "sideways"))
        self.told_of(5, -4, ("sideways", "inward", "sideways", "outward"))
        self.told_of(0, 1, ("outward", "sideways", "inward", "sideways"))

    def test_where_both_are_equal(self):
        # A step to the inside leaves the other one, so the greater one stays.
        self.told_of(5, 5, ("outward", "sideways", "sideways", "outward"))
        self.told_of(-5, 5, ("outward", "outward", "sideways", "sideways"))
        self.told_of(-5, -5, ("sideways", "outward", "outward", "sideways"))
        self.told_of(5, -5, ("sideways", "sideways", "outward", "outward"))
        self.told_of(1, 1, ("outward", "sideways", "sideways", "outward"))

    def test_amid_the_floor(self):
        self.told_of(0, 0, ("outward", "outward", "outward", "outward"))

    def test_on_the_bounds(self):
        self.told_of(0, 200, ("outward", "sideways", "inward", "sideways"))
        self.told_of(200, 200, ("outward", "sideways", "sideways", "outward"))
        self.told_of(-200, 3, ("sideways", "outward", "sideways", "inward"))

    def test_all_inward_at_home(self):
        for dancer in range(8):
            self.told(HOME, dancer, ("inward",), True)


class RuleFor(unittest.TestCase):
    def places(self, text):
        return [rule_for(HOME, dancer, read_call(text)) for dancer in range(8)]

    def test_the_first_of_several_that_hold(self):
        self.assertEqual(self.places("> stay ; > turn left"), [0] * 8)
        self.assertEqual(self.places("head > stay ; lefts > turn left ; > turn right"), [0, 0, 1, 2, 0, 0, 1, 2])
        self.assertEqual(self.places("side > stay ; head > stay ; side > turn left"), [1, 1, 0, 0, 1, 1, 0, 0])
        self.assertEqual(self.places("inner 0 > stay ; inner 2 > stay ; inner 3 > stay ; inner 4 > stay"), [2] * 8)

    def test_all_tests_of_it_hold(self):
        self.assertEqual(self.places("head and lefts > stay ; > stay"), [0, 1, 1, 1, 0, 1, 1, 1])
        self.assertEqual(self.places("lefts and head > stay ; > stay"), [0, 1, 1, 1, 0, 1, 1, 1])
        self.assertEqual(self.places("not head and lefts and inward and inner 3 > stay ; > stay"),
                         [1, 1, 0, 1, 1, 1, 0, 1])

    def test_none_holds(self):
        self.assertEqual(self.places("inner 2 > stay"), [None] * 8)
        self.assertEqual(self.places("head > stay"), [0, 0, None, None, 0, 0, None, None])
        self.assertEqual(self.places("head and side > stay ; lefts and rights > stay"), [None] * 8)

    def test_the_last_of_twelve(self):
        text = " ; ".join(["inner 2 > stay"] * 11 + ["lefts > stay"])
        self.assertEqual(self.places(text), [11, None] * 4)

    def test_a_whole_number_or_none_is_told(self):
        self.assertIs(type(rule_for(HOME, 0, read_call("> stay"))), int)
        self.assertIsNone(rule_for(HOME, 0, read_call("side > stay")))

    def test_it_is_the_first_place_of_which_all_hold(self):
        for floor, call in many():
            for dancer in range(8):
                places = [place for place, (tests, steps) in enumerate(call)
                          if all(holds(floor, dancer, test) for test in tests)]
                self.assertEqual(rule_for(floor, dancer, call), places[0] if places else None)

    def test_arguments_as_they_are_called(self):
        self.assertEqual(rule_for(call=read_call("side > stay ; > stay"), dancer=0, floor=HOME), 1)
        self.assertIs(holds(test=("head",), dancer=0, floor=HOME), True)

    def test_what_is_handed_in_stays(self):
        call = read_call("side > stay ; > turn left")
        before = list(call)
        rule_for(HOME, 0, call)
        self.assertEqual(call, before)
        call.reverse()
        self.assertEqual(rule_for(HOME, 0, call), 0)
        self.assertEqual(rule_for(HOME, 0, before), 1)


if __name__ == "__main__":
    unittest.main()
