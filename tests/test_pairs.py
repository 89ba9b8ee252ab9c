"""Promises 18 and 19, and 2 and 3 where they speak of them: the pairs on a floor, and a call danced by pairs."""

import itertools
import random
import unittest

from samples import (answer_of, floor_of_pairs, floor_with, is_refusal, many_paired, moved, others, some_floor,
                     some_paired_floor, with_stand)
from squarecall.errors import Blind, FloorError, Meet, NoPairs, Out
from squarecall.floors import HOME, is_floor
from squarecall.pairs import danced_by_pairs, pairs_on
from squarecall.rules import read_call
from squarecall.turnings import turned

NORTH = complex(0, 1)

# Three pairs that stand far off, each by itself, for floors of which one pair is looked at.
FAR = {(2, 3): (100, 100, 0), (4, 5): (100, -100, 0), (6, 7): (-100, -100, 0)}


def ahead_of(facing):
    return NORTH * NORTH ** facing


def facing_of(ahead):
    return [facing for facing in range(4) if ahead_of(facing) == ahead][0]


def stand_of(spot, ahead):
    return (int(spot.real), int(spot.imag), facing_of(ahead))


def model_pairs(floor):
    """The pairs, by lines of dancers who face one way; None where they are refused."""
    lines = {}
    for dancer, (x, y, facing) in enumerate(floor):
        along = complex(x, y) / ahead_of(facing)
        lines.setdefault((facing, along.real, along.imag % 2), []).append((-along.imag, dancer))
    pairs = []
    for line in lines.values():
        line.sort()
        while line:
            row = [line.pop(0)]
            while line and line[0][0] == row[-1][0] + 2:
                row.append(line.pop(0))
            if len(row) % 2:
                return None
            pairs += [(row[place][1], row[place + 1][1]) for place in range(0, len(row), 2)]
    if len({model_middle(floor, pair) for pair in pairs}) < 4:
        return None
    return sorted(pairs)


def model_middle(floor, pair):
    (x, y, facing), (other_x, other_y, same) = floor[pair[0]], floor[pair[1]]
    return complex((x + other_x) // 2, (y + other_y) // 2)


def model_holds(floor, pairs, pair, test):
    middles = {model_middle(floor, other): other for other in pairs}
    own = model_middle(floor, pair)
    ahead = ahead_of(floor[pair[0]][2])
    word = test[0]
    if word == "not":
        return not model_holds(floor, pairs, pair, test[1])
    if word == "at":
        other = middles.get(own + test[1] * ahead - 2 * test[2] * ahead * NORTH)
        if other is None:
            return test[3] == "none"
        ways = {"same": 1, "left": NORTH, "about": -1, "right": -NORTH}
        return test[3] == "any" or test[3] in ways and ahead_of(floor[other[0]][2]) == ahead * ways[test[3]]
    if word in ("inward", "outward", "sideways"):
        step = own + ahead
        change = max(abs(step.real), abs(step.imag)) - max(abs(own.real), abs(own.imag))
        return word == ("inward" if change < 0 else "outward" if change > 0 else "sideways")
    such = {
        "head": (0, 1, 4, 5), "side": (2, 3, 6, 7), "lefts": (0, 2, 4, 6), "rights": (1, 3, 5, 7),
        "inner": [dancer for dancer in range(8) if word == "inner" and max(map(abs, floor[dancer][:2])) <= test[1]],
    }
    return set(pair) <= set(such[word])


def model_way(floor, pair, dancer, steps):
    """The stands of a dancer of a pair, behind each step, who goes round the middle in each turn."""
    middle = model_middle(floor, pair)
    x, y, facing = floor[dancer]
    spot, ahead = complex(x, y), ahead_of(facing)
    way = [floor[dancer]]
    for word, *more in steps:
        if word == "turn":
            round_by = {"left": NORTH, "about": -1, "right": -NORTH}[more[0]]
            spot, ahead = middle + (spot - middle) * round_by, ahead * round_by
        elif word != "stay":
            going = {"ahead": ahead, "back": -ahead, "left": 2 * ahead * NORTH, "right": -2 * ahead * NORTH}[word]
            spot, middle = spot + more[0] * going, middle + more[0] * going
        way.append(stand_of(spot, ahead))
    return way


def model_danced(floor, call):
    pairs = model_pairs(floor)
    if pairs is None:
        return ("NoPairs",)
    ways = {}
    for pair in pairs:
        rules = [steps for tests, steps in call if all(model_holds(floor, pairs, pair, test) for test in tests)]
        if not rules:
            return ("Blind", pair[0])
        for dancer in pair:
            ways[dancer] = model_way(floor, pair, dancer, rules[0])
    for dancer in range(8):
        if any(max(abs(x), abs(y)) > 200 for x, y, facing in ways[dancer]):
            return ("Out", dancer)
    behind = tuple(ways[dancer][-1] for dancer in range(8))
    for one, other in itertools.product(range(8), range(8)):
        if one != other and behind[one][:2] == behind[other][:2]:
            return ("Meet", one, other)
    return behind


def row_of(dancers, x=0, y=0):
    """Stands by dancers, in a row from left to right, all facing north."""
    return {dancer: (x + 2 * place, y, 0) for place, dancer in enumerate(dancers)}


def rows(*told):
    """A floor of such rows, each with its first spot."""
    stands = {}
    for dancers, x, y in told:
        stands.update(row_of(dancers, x, y))
    return floor_with(stands)


class PairsTest(unittest.TestCase):
    def told(self, floor, pairs):
        for quarters in range(4):
            with self.subTest(floor=floor, quarters=quarters):
                self.assertIs(is_floor(floor), True)
                self.assertEqual(pairs_on(turned(floor, quarters)), pairs)

    def refused(self, floor):
        for quarters in range(4):
            with self.subTest(floor=floor, quarters=quarters):
                self.assertIs(is_floor(floor), True)
                for doing in (pairs_on, lambda floor: danced_by_pairs(floor, read_call("> stay"))):
                    with self.assertRaises(NoPairs) as taken:
                        doing(turned(floor, quarters))
                    self.assertIsInstance(taken.exception, FloorError)
                    self.assertNotIsInstance(taken.exception, others(NoPairs))


class Pairs(PairsTest):
    def test_at_home(self):
        self.told(HOME, [(0, 1), (2, 3), (4, 5), (6, 7)])

    def test_home_with_all_turned_about(self):
        floor = tuple((x, y, (facing + 2) % 4) for x, y, facing in HOME)
        self.told(floor, [(1, 0), (3, 2), (5, 4), (7, 6)])

    def test_rows_of_two(self):
        self.told(rows(((0, 1), 0, 0), ((2, 3), 0, 1), ((4, 5), 0, 2), ((6, 7), 0, 3)), [(0, 1), (2, 3), (4, 5), (6, 7)])
        self.told(rows(((7, 0), 0, 0), ((5, 2), 0, 1), ((3, 4), 0, 2), ((1, 6), 0, 3)), [(1, 6), (3, 4), (5, 2), (7, 0)])

    def test_rows_of_four(self):
        self.told(rows(((0, 1, 2, 3), 0, 0), ((4, 5, 6, 7), 0, 9)), [(0, 1), (2, 3), (4, 5), (6, 7)])
        self.told(rows(((3, 0, 6, 5), 0, 0), ((7, 4, 2, 1), 0, 9)), [(2, 1), (3, 0), (6, 5), (7, 4)])
        self.told(rows(((3, 0, 6, 5), 0, 0), ((7, 4), 0, 9), ((1, 2), 20, 9)), [(1, 2), (3, 0), (6, 5), (7, 4)])

    def test_rows_of_six_and_two(self):
        self.told(rows(((0, 1, 2, 3, 4, 5), 0, 0), ((6, 7), 0, 9)), [(0, 1), (2, 3), (4, 5), (6, 7)])
        self.told(rows(((5, 7, 3, 1, 6, 0), 0, 0), ((4, 2), 0, 9)), [(3, 1), (4, 2), (5, 7), (6, 0)])

    def test_rows_of_eight(self):
        self.told(rows((range(8), -7, 0)), [(0, 1), (2, 3), (4, 5), (6, 7)])
        self.told(rows(((7, 6, 5, 4, 3, 2, 1, 0), -7, 0)), [(1, 0), (3, 2), (5, 4), (7, 6)])
        self.told(rows(((1, 2, 3, 4, 5, 6, 7, 0), -7, 0)), [(1, 2), (3, 4), (5, 6), (7, 0)])

    def test_rows_of_one_three_five_and_seven(self):
        self.refused(rows(((0, 1, 2), 0, 0), ((3, 4, 5), 0, 9), ((6, 7), 0, 18)))
        self.refused(rows(((0, 1, 2, 3, 4), 0, 0), ((5, 6, 7), 0, 9)))
        self.refused(rows(((0, 1, 2, 3, 4, 5, 6), 0, 0), ((7,), 0, 9)))
        self.refused(rows(((0,), 0, 0), ((1,), 0, 9), ((2, 3, 4, 5, 6, 7), 0, 18)))
        self.refused(rows(((0, 1, 2), 0, 0), ((3,), 0, 9), ((4, 5, 6, 7), 0, 18)))
        self.refused(rows(*[((dancer,), 0, 3 * dancer) for dancer in range(8)]))
        for alone in range(8):
            row = [dancer for dancer in range(8) if dancer != alone]
            self.refused(rows((row, 0, 0), ((alone,), 0, 9)))

    def test_two_to_the_right_but_facing_otherwise(self):
        for facing in (1, 2, 3):
            for dancer in range(8):
                floor = rows(((0, 1), 0, 0), ((2, 3), 0, 9), ((4, 5), 0, 18), ((6, 7), 0, 27))
                x, y, same = floor[dancer]
                self.refused(with_stand(floor, dancer, (x, y, facing)))

    def test_a_row_ends_at_who_faces_otherwise(self):
        # In the midst of a row of eight two face about: so it falls into rows of two or three.
        floor = rows((range(8), -7, 0))
        for first, pairs in ((2, [(0, 1), (3, 2), (4, 5), (6, 7)]), (1, None), (4, [(0, 1), (2, 3), (5, 4), (6, 7)])):
            about = floor
            for dancer in (first, first + 1):
                x, y, facing = floor[dancer]
                about = with_stand(about, dancer, (x, y, 2))
            if pairs is None:
                self.refused(about)
            else:
                self.told(about, pairs)

    def test_beside_one_another_face_to_back_is_no_pair(self):
        self.refused(with_stand(HOME, 1, (1, -3, 2)))
        # Both face about: the right hand of the one is the other one then.
        about = with_stand(with_stand(HOME, 0, (-1, -3, 2)), 1, (1, -3, 2))
        self.told(about, [(1, 0), (2, 3), (4, 5), (6, 7)])

    def test_one_or_three_or_four_to_the_right(self):
        for far in (1, 3, 4):
            self.refused(with_stand(HOME, 1, (-1 + far, -3, 0)))
        self.told(with_stand(HOME, 1, (-1 + 2, -3, 0)), [(0, 1), (2, 3), (4, 5), (6, 7)])

    def test_two_ahead_or_behind_or_aslant(self):
        for stand in ((-1, -1, 0), (-1, -5, 0), (1, -2, 0), (1, -4, 0), (0, -2, 0)):
            self.refused(with_stand(HOME, 1, stand))

    def test_two_to_the_left_is_the_other_way_round(self):
        self.told(with_stand(HOME, 1, (-3, -3, 0)), [(1, 0), (2, 3), (4, 5), (6, 7)])

    def test_rows_between_one_another(self):
        # One step apart: the dancers of the one row stand between those of the other one.
        self.told(rows(((0, 2, 4, 6), 0, 0), ((1, 3, 5, 7), 1, 0)), [(0, 2), (1, 3), (4, 6), (5, 7)])
        self.told(rows(((7, 1), 0, 0), ((0, 6), 1, 0), ((5, 4), 0, 9), ((3, 2), 1, 9)), [(0, 6), (3, 2), (5, 4), (7, 1)])
        self.refused(rows(((0, 2, 4), 0, 0), ((1, 3, 5, 6, 7), 1, 0)))

    def test_two_pairs_of_one_middle(self):
        cross = {(0, 1): (0, 0, 0), (2, 3): (0, 0, 1), (4, 5): (9, 9, 0), (6, 7): (9, -9, 0)}
        for facing, other in itertools.product(range(4), range(4)):
            if (facing - other) % 2:
                self.refused(floor_of_pairs({**cross, (0, 1): (0, 0, facing), (2, 3): (0, 0, other)}))
                self.refused(floor_of_pairs({(5, 0): (9, 4, facing), (1, 4): (9, 4, other), (2, 3): (0, 0, 1),
                                             (6, 7): (9, -9, 0)}))
        self.refused(floor_of_pairs({(0, 1): (0, 0, 0), (2, 3): (0, 0, 1), (4, 5): (5, 5, 2), (6, 7): (5, 5, 3)}))
        self.told(floor_of_pairs({**cross, (2, 3): (0, 1, 0)}), [(0, 1), (2, 3), (4, 5), (6, 7)])
        self.told(floor_of_pairs({**cross, (2, 3): (0, 2, 1)}), [(0, 1), (2, 3), (4, 5), (6, 7)])

    def test_two_pairs_of_one_middle_of_longer_rows(self):
        # The second pair of a row of four, and a pair that stands across it.
        floor = floor_of_pairs({(0, 1): (0, 0, 0), (2, 3): (4, 0, 0), (4, 5): (4, 0, 1), (6, 7): (20, 0, 0)})
        self.refused(floor)
        # Amid the row, where no pair has its middle, it may stand.
        floor = floor_of_pairs({(0, 1): (0, 0, 0), (2, 3): (4, 0, 0), (4, 5): (2, 0, 1), (6, 7): (20, 0, 0)})
        self.told(floor, [(0, 1), (2, 3), (4, 5), (6, 7)])

    def test_at_the_bounds(self):
        floor = floor_of_pairs({(0, 1): (199, 200, 0), (2, 3): (-199, 200, 0), (4, 5): (200, -199, 1), (7, 6): (-200, 0, 3)})
        self.told(floor, [(0, 1), (2, 3), (4, 5), (7, 6)])

    def test_many_floors_as_the_model_tells_them(self):
        source = random.Random(18)
        for place in range(600):
            floor = some_floor(source, 3) if place % 3 == 0 else some_paired_floor(source, 3)
            if place % 5 == 0:
                floor = tuple((x * 2, y, facing % 2 * 2) for x, y, facing in some_floor(source, 2))
            told = answer_of(pairs_on, floor)
            self.assertEqual(told, model_pairs(floor) or ("NoPairs",), floor)

    def test_all_have_a_pair(self):
        source = random.Random(8)
        for place in range(100):
            pairs = pairs_on(some_paired_floor(source))
            self.assertEqual(sorted(dancer for pair in pairs for dancer in pair), list(range(8)))
            self.assertEqual(pairs, sorted(pairs))

    def test_kinds(self):
        pairs = pairs_on(HOME)
        self.assertIs(type(pairs), list)
        self.assertEqual([type(pair) for pair in pairs], [tuple] * 4)
        self.assertEqual([type(dancer) for pair in pairs for dancer in pair], [int] * 8)
        self.assertEqual(pairs_on(floor=HOME), pairs)

    def test_the_list_told_is_the_askers_own(self):
        pairs = pairs_on(HOME)
        pairs.append((8, 9))
        pairs[0] = None
        self.assertEqual(pairs_on(HOME), [(0, 1), (2, 3), (4, 5), (6, 7)])
        self.assertIsNot(pairs_on(HOME), pairs_on(HOME))


class Tests(unittest.TestCase):
    """Tests for a pair: whether a rule with this test is taken by the pair (0, 1), or that pair that is told."""

    def told(self, floor, test, answer, left=0):
        for quarters in range(4):
            for text, held in ((test, answer), (f"not {test}", not answer)):
                with self.subTest(floor=floor, test=text, quarters=quarters):
                    self.assertIs(is_floor(floor), True)
                    about = turned(floor, quarters)
                    behind = danced_by_pairs(about, read_call(f"{text} > turn about ; > stay"))
                    self.assertIs(behind[left][2] != about[left][2], held)

    def seen(self, floor, at, whats, left=0):
        for what in ("none", "any", "same", "left", "about", "right", "partner", "opposite"):
            self.told(floor, f"at {at} {what}", what in whats, left)

    def test_at_a_middle_by_each_facing(self):
        for turn, what in enumerate(("same", "left", "about", "right")):
            floor = floor_of_pairs({**FAR, (0, 1): (10, 20, 0), (2, 3): (10, 25, turn)})
            self.seen(floor, "5 0", ("any", what))
            for at in ("4 0", "6 0", "-5 0", "5 1", "5 -1", "0 5", "9 9"):
                self.seen(floor, at, ("none",))

    def test_at_so_many_ahead_and_twice_as_many_to_the_right(self):
        for ahead, right in itertools.product((-9, -3, -1, 0, 1, 2, 9), (-9, -2, -1, 0, 1, 3, 9)):
            if abs(ahead) + abs(right) > 1:
                floor = floor_of_pairs({**FAR, (0, 1): (10, 20, 0), (2, 3): (10 + 2 * right, 20 + ahead, 0)})
                self.seen(floor, f"{ahead} {right}", ("any", "same"))
        for ahead, right in ((0, 2), (0, -2), (3, 1), (-3, -1), (1, 2)):
            floor = floor_of_pairs({**FAR, (0, 1): (10, 20, 0), (2, 3): (10 + right, 20 + ahead, 2)})
            if right % 2:
                self.seen(floor, f"{ahead} {right}", ("none",))

    def test_at_the_next_pair_of_a_row(self):
        floor = rows(((0, 1, 2, 3), 0, 0), ((4, 5), 50, 50), ((6, 7), 50, 60))
        self.seen(floor, "0 2", ("any", "same"))
        self.seen(floor, "0 1", ("none",))
        self.seen(floor, "0 -2", ("any", "same"), left=2)
        self.seen(floor, "0 4", ("none",))

    def test_at_a_spot_where_one_dancer_of_a_pair_stands_but_no_middle_is(self):
        # Dancer 2 stands five ahead and two to the right of the middle, dancer 3 four to the right.
        floor = floor_of_pairs({**FAR, (0, 1): (10, 20, 0), (2, 3): (13, 25, 0)})
        for at in ("5 1", "5 2", "5 0"):
            self.seen(floor, at, ("none",))
        # Dancer 2 stands two to the right, where a test for one dancer would look for R = 2.
        floor = floor_of_pairs({**FAR, (0, 1): (10, 20, 0), (2, 3): (12, 21, 1)})
        self.seen(floor, "1 1", ("any", "left"))
        self.seen(floor, "0 1", ("none",))
        self.seen(floor, "2 1", ("none",))

    def test_at_the_partner_of_the_own_pair_is_nobody(self):
        self.seen(HOME, "0 1", ("none",))
        self.seen(HOME, "0 2", ("none",))
        self.seen(HOME, "0 -1", ("none",))

    def test_partner_and_opposite_hold_of_no_pair(self):
        # The pair ahead has the partners, the opposites, the own numbers of the dancers of the pair.
        for pair, others_of in (((0, 2), (1, 3)), ((0, 1), (4, 5)), ((0, 1), (5, 4)), ((0, 4), (1, 5)), ((0, 3), (2, 1))):
            left = [dancer for dancer in range(8) if dancer not in pair + others_of]
            floor = floor_of_pairs({pair: (0, -3, 0), others_of: (0, 3, 2), tuple(left[:2]): (50, 0, 0),
                                    tuple(left[2:]): (50, 50, 0)})
            self.seen(floor, "6 0", ("any", "about"))
        for at in ("6 0", "3 0"):
            self.told(HOME, f"at {at} partner", False)
            self.told(HOME, f"at {at} opposite", False)

    def test_head_and_side_where_both_one_or_none_are_such(self):
        for pair, head, side in (((0, 1), True, False), ((4, 0), True, False), ((2, 3), False, True), ((7, 2), False, True),
                                 ((0, 2), False, False), ((3, 1), False, False), ((6, 5), False, False)):
            floor = self.floor_with_pair(pair)
            self.told(floor, "head", head, pair[0])
            self.told(floor, "side", side, pair[0])

    def test_lefts_and_rights_where_both_one_or_none_are_such(self):
        for pair, lefts, rights in (((0, 2), True, False), ((6, 4), True, False), ((1, 3), False, True),
                                    ((7, 1), False, True), ((0, 1), False, False), ((1, 0), False, False), ((5, 2), False, False)):
            floor = self.floor_with_pair(pair)
            self.told(floor, "lefts", lefts, pair[0])
            self.told(floor, "rights", rights, pair[0])

    def floor_with_pair(self, pair):
        left = [dancer for dancer in range(8) if dancer not in pair]
        places = ((100, 100, 0), (100, -100, 0), (-100, -100, 0))
        far = {tuple(left[place * 2:place * 2 + 2]): middle for place, middle in enumerate(places)}
        return floor_of_pairs({pair: (10, 20, 0), **far})

    def test_inner_where_one_of_both_is_beyond(self):
        for middle, both in (((6, 0, 0), 7), ((-6, 0, 0), 7), ((6, 0, 2), 7), ((0, 6, 1), 7), ((0, -6, 3), 7), ((0, 6, 0), 6),
                             ((6, 0, 1), 6), ((0, 0, 0), 1), ((3, 9, 0), 9), ((9, 3, 0), 10), ((9, 9, 2), 10), ((-4, 5, 0), 5)):
            floor = floor_of_pairs({**FAR, (0, 1): middle})
            for number in range(12):
                self.told(floor, f"inner {number}", number >= both)
        self.told(floor_of_pairs({**FAR, (0, 1): (199, 0, 0)}), "inner 199", False)
        self.told(floor_of_pairs({**FAR, (0, 1): (199, 0, 0)}), "inner 200", True)

    def drifts(self, middle, word):
        floor = floor_of_pairs({**FAR, (0, 1): middle})
        for other in ("inward", "outward", "sideways"):
            self.told(floor, other, other == word)

    def test_inward_and_so_on_by_the_middle(self):
        self.drifts((0, -3, 0), "inward")
        self.drifts((0, -3, 2), "outward")
        self.drifts((0, -3, 1), "sideways")
        self.drifts((5, -3, 0), "sideways")
        # The right one alone would be beyond the corner here, and the left one not.
        self.drifts((3, 3, 0), "outward")
        self.drifts((3, -3, 0), "sideways")
        self.drifts((2, -3, 0), "inward")
        self.drifts((4, -3, 0), "sideways")
        self.drifts((4, 3, 0), "sideways")
        self.drifts((2, 2, 0), "outward")
        self.drifts((3, 2, 0), "sideways")

    def test_outward_where_the_middle_of_the_floor_is_the_pairs(self):
        for facing in range(4):
            self.drifts((0, 0, facing), "outward")
        # The dancers themselves would go sideways.
        self.assertEqual(floor_of_pairs({**FAR, (0, 1): (0, 0, 0)})[:2], ((-1, 0, 0), (1, 0, 0)))

    def test_inward_to_the_middle_of_the_floor(self):
        self.drifts((0, -1, 0), "inward")
        self.drifts((-1, 0, 3), "inward")
        self.drifts((0, 1, 0), "outward")

    def test_rules_of_several_tests_and_the_first_of_several_rules(self):
        call = read_call("head and at 6 0 any and not inner 2 > turn left ; head > turn right ; at 6 0 about > back 1 ; > stay")
        behind = danced_by_pairs(HOME, call)
        self.assertEqual(behind[:4], ((0, -4, 1), (0, -2, 1), (4, -1, 1), (4, 1, 1)))
        floor = with_stand(with_stand(HOME, 4, (1, 4, 2)), 5, (-1, 4, 2))
        behind = danced_by_pairs(floor, call)
        self.assertEqual(behind[:2], ((0, -2, 3), (0, -4, 3)))


class Steps(unittest.TestCase):
    def told(self, text, middle, first=(10, 20, 0)):
        """Where the pair (0, 1) comes to, by its middle, as on all four floors turned."""
        floor = floor_of_pairs({**FAR, (0, 1): first})
        behind = floor_of_pairs({**FAR, (0, 1): middle})
        call = read_call(f"inner 50 > {text} ; > stay")
        for quarters in range(4):
            with self.subTest(text=text, quarters=quarters):
                self.assertEqual(danced_by_pairs(turned(floor, quarters), call), turned(behind, quarters))

    def test_each_step(self):
        for number in range(1, 10):
            self.told(f"ahead {number}", (10, 20 + number, 0))
            self.told(f"back {number}", (10, 20 - number, 0))
            self.told(f"left {number}", (10 - 2 * number, 20, 0))
            self.told(f"right {number}", (10 + 2 * number, 20, 0))
        self.told("stay", (10, 20, 0))

    def test_turns_of_both_round_their_middle(self):
        for text, left, right in (("turn left", (10, 19, 1), (10, 21, 1)), ("turn right", (10, 21, 3), (10, 19, 3)),
                                  ("turn about", (11, 20, 2), (9, 20, 2))):
            floor = floor_of_pairs({**FAR, (0, 1): (10, 20, 0)})
            behind = danced_by_pairs(floor, read_call(f"inner 50 > {text} ; > stay"))
            self.assertEqual(behind[:2], (left, right))
            self.assertEqual(behind[2:], floor[2:])
        self.told("turn left", (10, 20, 1))
        self.told("turn right", (10, 20, 3))
        self.told("turn about", (10, 20, 2))

    def test_steps_behind_a_turn(self):
        self.told("turn left ahead 3", (7, 20, 1))
        self.told("turn left left 3", (10, 14, 1))
        self.told("turn right right 2 ahead 1", (11, 16, 3))
        self.told("turn about back 4 left 1", (12, 24, 2))
        self.told("ahead 2 turn left ahead 3 turn left ahead 4 turn right", (7, 18, 1))
        self.told("turn left turn left turn about", (10, 20, 0))
        self.told("right 1 turn about right 1", (10, 20, 2))
        self.told("left 9 turn left left 9 turn left left 9 turn left left 9", (10, 20, 3))

    def test_pairs_of_any_numbers_keep_left_and_right(self):
        for pair in ((5, 2), (2, 5), (7, 0), (6, 7)):
            left = [dancer for dancer in range(8) if dancer not in pair]
            far = {tuple(left[place * 2:place * 2 + 2]): (100, 50 * place, 0) for place in range(3)}
            floor = floor_of_pairs({pair: (0, 0, 0), **far})
            behind = danced_by_pairs(floor, read_call("inner 50 > turn left right 1 ; > stay"))
            self.assertEqual((behind[pair[0]], behind[pair[1]]), ((0, 1, 1), (0, 3, 1)))

    def test_at_home(self):
        self.assertEqual(danced_by_pairs(HOME, read_call("> ahead 1")), (
            (-1, -2, 0), (1, -2, 0), (2, -1, 1), (2, 1, 1), (1, 2, 2), (-1, 2, 2), (-2, 1, 3), (-2, -1, 3)))
        self.assertEqual(danced_by_pairs(HOME, read_call("> turn about")), (
            (1, -3, 2), (-1, -3, 2), (3, 1, 3), (3, -1, 3), (-1, 3, 0), (1, 3, 0), (-3, -1, 1), (-3, 1, 1)))
        self.assertEqual(danced_by_pairs(HOME, read_call("head > back 1 turn left ; > right 2")), (
            (0, -5, 1), (0, -3, 1), (3, 3, 1), (3, 5, 1), (0, 5, 3), (0, 3, 3), (-3, -3, 3), (-3, -5, 3)))

    def test_pairs_pass_through_one_another_and_change_places(self):
        self.assertEqual(danced_by_pairs(HOME, read_call("> ahead 6")), (
            (-1, 3, 0), (1, 3, 0), (-3, -1, 1), (-3, 1, 1), (1, -3, 2), (-1, -3, 2), (3, 1, 3), (3, -1, 3)))
        floor = rows(((0, 1, 2, 3), 0, 0), ((4, 5, 6, 7), 0, 9))
        call = read_call("at 0 2 any > right 2 ; > left 2")
        self.assertEqual(danced_by_pairs(floor, call), rows(((2, 3, 0, 1), 0, 0), ((6, 7, 4, 5), 0, 9)))

    def test_two_pairs_may_come_to_one_middle(self):
        floor = floor_of_pairs({**FAR, (0, 1): (0, -3, 0), (2, 3): (3, 0, 1)})
        behind = danced_by_pairs(floor, read_call("inner 50 > ahead 3 ; > stay"))
        self.assertEqual(behind, floor_of_pairs({**FAR, (0, 1): (0, 0, 0), (2, 3): (0, 0, 1)}))
        self.assertEqual(answer_of(pairs_on, behind), ("NoPairs",))

    def test_all_by_the_floor_ahead_of_the_call(self):
        floor = floor_of_pairs({(0, 1): (0, 1, 0), (2, 3): (0, 0, 0), (4, 5): (0, -2, 0), (6, 7): (0, -50, 0)})
        call = read_call("at 1 0 any > ahead 1 ; at -1 0 any > ahead 5 ; > ahead 2")
        self.assertEqual(danced_by_pairs(floor, call), floor_of_pairs(
            {(0, 1): (0, 6, 0), (2, 3): (0, 1, 0), (4, 5): (0, 0, 0), (6, 7): (0, -48, 0)}))

    def test_a_floor_is_told(self):
        told = danced_by_pairs(call=read_call("> stay"), floor=HOME)
        self.assertEqual(told, HOME)
        self.assertIs(is_floor(told), True)


class Refused(unittest.TestCase):
    def refused(self, floor, text, told):
        for quarters in range(4):
            with self.subTest(text=text, quarters=quarters):
                self.assertIs(is_floor(floor), True)
                self.assertEqual(answer_of(danced_by_pairs, turned(floor, quarters), read_call(text)), told)

    def test_blind(self):
        self.refused(HOME, "inner 2 > stay", ("Blind", 0))
        self.refused(HOME, "head > stay", ("Blind", 2))
        self.refused(HOME, "lefts > stay ; rights > stay", ("Blind", 0))
        self.refused(HOME, "at 6 0 opposite > stay", ("Blind", 0))

    def test_blind_is_the_left_one_of_the_first_pair_without_a_rule(self):
        floor = rows(((7, 0), 0, 0), ((3, 1), 0, 9), ((5, 2), 0, 18), ((6, 4), 0, 27))
        self.assertEqual(pairs_on(floor), [(3, 1), (5, 2), (6, 4), (7, 0)])
        self.refused(floor, "inner 0 > stay", ("Blind", 3))
        self.refused(floor, "at 9 0 any > stay", ("Blind", 6))
        self.refused(floor, "rights > stay", ("Blind", 5))
        self.refused(floor, "not inner 4 > stay", ("Blind", 7))
        self.refused(floor, "rights > stay ; lefts > stay", ("Blind", 5))

    def test_out_by_each_step(self):
        floor = floor_of_pairs({**FAR, (0, 1): (0, 200, 0)})
        call = "not inner 150 > {} ; > stay"
        self.refused(floor, call.format("ahead 1"), ("Out", 0))
        self.refused(floor, call.format("turn left"), ("Out", 1))
        self.refused(floor, call.format("turn right"), ("Out", 0))
        self.refused(floor, call.format("turn about ahead 9 back 9 back 1"), ("Out", 0))
        for text, middle in (("back 1", (0, 199, 0)), ("turn about", (0, 200, 2)), ("left 9", (-18, 200, 0)),
                             ("right 9", (18, 200, 0)), ("back 1 turn left", (0, 199, 1)), ("turn about turn about", (0, 200, 0))):
            self.assertEqual(danced_by_pairs(floor, read_call(call.format(text))), floor_of_pairs({**FAR, (0, 1): middle}))

    def test_out_to_the_sides_twice_as_far(self):
        for middle, out in ((191, False), (192, True)):
            floor = floor_of_pairs({**FAR, (0, 1): (middle, 0, 0)})
            told = answer_of(danced_by_pairs, floor, read_call("not inner 150 > right 4 ; > stay"))
            self.assertEqual(told, ("Out", 1) if out else floor_of_pairs({**FAR, (0, 1): (199, 0, 0)}))
            floor = floor_of_pairs({**FAR, (0, 1): (-middle, 0, 0)})
            told = answer_of(danced_by_pairs, floor, read_call("not inner 150 > left 4 ; > stay"))
            self.assertEqual(told, ("Out", 0) if out else floor_of_pairs({**FAR, (0, 1): (-199, 0, 0)}))

    def test_out_on_the_way_alone(self):
        floor = floor_of_pairs({**FAR, (0, 1): (0, 200, 0)})
        for text, who in (("ahead 1 back 1", 0), ("turn left turn right", 1), ("turn right turn left", 0),
                          ("back 9 ahead 9 ahead 1 back 9", 0), ("turn about turn left ahead 9", 0),
                          ("back 1 turn left right 1 back 1", 1)):
            self.refused(floor, f"not inner 150 > {text} ; > stay", ("Out", who))

    def test_out_is_the_least_dancer_whose_own_way_is(self):
        # The pair (3, 1) is the first one; of (6, 0), which is behind it, dancer 0 is less than both.
        floor = floor_of_pairs({(3, 1): (0, 200, 0), (6, 0): (50, 200, 0), (7, 2): (100, 200, 0), (4, 5): (0, 0, 0)})
        call = "inner 50 > stay ; > {}"
        self.assertEqual(pairs_on(floor), [(3, 1), (4, 5), (6, 0), (7, 2)])
        self.refused(floor, call.format("ahead 1"), ("Out", 0))
        self.refused(floor, call.format("turn left"), ("Out", 0))
        self.refused(floor, call.format("turn right"), ("Out", 3))
        # Dancer 1 comes out at the first step, dancer 0 at the second: the least dancer is told, not the first step.
        floor = floor_of_pairs({(1, 2): (0, 200, 0), (0, 3): (50, 199, 0), (4, 5): (0, 0, 0), (6, 7): (0, 50, 0)})
        self.refused(floor, "not inner 100 > ahead 1 ahead 1 ; > stay", ("Out", 0))

    def test_meet(self):
        self.refused(HOME, "> ahead 3", ("Meet", 0, 5))
        self.refused(HOME, "side > ahead 3 ; > stay", ("Meet", 2, 7))

    def test_meet_is_the_least_dancer_and_the_least_other_one(self):
        floor = rows(((7, 0), 0, 0), ((3, 1), 0, 2), ((5, 2), 50, 50), ((6, 4), 50, 52))
        self.refused(floor, "at 2 0 any > ahead 2 ; > stay", ("Meet", 0, 1))
        floor = rows(((7, 0), 0, 0), ((3, 1), 0, 20), ((5, 2), 50, 50), ((6, 4), 50, 52))
        self.refused(floor, "at 2 0 any > ahead 2 ; > stay", ("Meet", 2, 4))

    def test_one_of_a_pair_meets_one_of_another_one(self):
        # Half beside one another: dancer 1 comes to where dancer 2 stands.
        floor = rows(((0, 1), 0, 0), ((2, 3), 2, 5), ((4, 5), 50, 50), ((6, 7), 50, 60))
        self.refused(floor, "inner 1 > stay ; inner 2 > ahead 5 ; > stay", ("Meet", 1, 2))
        # A turn brings the right one to where another one stands.
        floor = floor_of_pairs({**FAR, (0, 1): (0, 0, 0), (2, 3): (1, 1, 0)})
        self.refused(floor, "inner 1 > turn left ; > stay", ("Meet", 1, 2))

    def test_no_pairs_comes_first(self):
        far = with_stand(HOME, 1, (1, -200, 2))
        for text in ("inner 0 > stay", "> ahead 1", "> ahead 3", "> stay", "> turn left ahead 9"):
            self.refused(far, text, ("NoPairs",))

    def test_blind_comes_ahead_of_out(self):
        floor = floor_of_pairs({(0, 1): (0, 200, 0), (2, 3): (0, 100, 0), (4, 5): (0, 50, 0), (6, 7): (0, 0, 0)})
        self.refused(floor, "not inner 20 > ahead 9", ("Blind", 6))
        self.refused(floor, "not inner 20 > ahead 9 ; > stay", ("Out", 0))

    def test_blind_comes_ahead_of_meet(self):
        floor = floor_of_pairs({(0, 1): (0, 20, 0), (2, 3): (0, 22, 0), (4, 5): (0, 50, 0), (6, 7): (0, 0, 0)})
        self.refused(floor, "at 2 0 any > ahead 2 ; not inner 9 > stay", ("Blind", 6))
        self.refused(floor, "at 2 0 any > ahead 2 ; > stay", ("Meet", 0, 2))

    def test_out_comes_ahead_of_meet(self):
        floor = floor_of_pairs({(0, 1): (0, 20, 0), (2, 3): (0, 22, 0), (4, 5): (0, 50, 0), (6, 7): (0, 200, 0)})
        self.refused(floor, "at 2 0 any > ahead 2 ; not inner 150 > ahead 1 ; > stay", ("Out", 6))
        self.refused(floor, "at 2 0 any > ahead 2 ; not inner 150 > back 1 ; > stay", ("Meet", 0, 2))

    def test_each_is_just_its_own_class(self):
        out = floor_of_pairs({**FAR, (0, 1): (0, 200, 0)})
        for floor, text, kind in ((with_stand(HOME, 0, (-1, -4, 0)), "> stay", NoPairs), (HOME, "inner 2 > stay", Blind),
                                  (out, "> ahead 1", Out), (HOME, "> ahead 3", Meet)):
            with self.assertRaises(FloorError) as taken:
                danced_by_pairs(floor, read_call(text))
            self.assertIsInstance(taken.exception, kind)
            self.assertNotIsInstance(taken.exception, others(kind))

    def test_what_is_refused_changes_nothing(self):
        call = read_call("> ahead 3")
        for attempt in range(2):
            self.refused(HOME, "> ahead 3", ("Meet", 0, 5))
            self.assertEqual(answer_of(danced_by_pairs, HOME, call), ("Meet", 0, 5))
            self.assertEqual(call, read_call("> ahead 3"))
        self.assertEqual(danced_by_pairs(HOME, read_call("> stay")), HOME)


class Model(unittest.TestCase):
    def test_many_floors_and_calls_as_the_model_tells_them(self):
        seen = []
        for floor, call in many_paired(900):
            with self.subTest(floor=floor, call=call):
                told = answer_of(danced_by_pairs, floor, call)
                self.assertEqual(told, model_danced(floor, call))
                seen.append(told[0] if is_refusal(told) else "floor")
        # Else the samples would leave a sort of answer untried.
        for kind in ("floor", "NoPairs", "Blind", "Out", "Meet"):
            self.assertGreater(seen.count(kind), 20, kind)

    def test_on_a_floor_turned(self):
        for floor, call in many_paired(400):
            told = answer_of(danced_by_pairs, floor, call)
            for quarters in (1, 2, 3, -1):
                with self.subTest(floor=floor, call=call, quarters=quarters):
                    other = answer_of(danced_by_pairs, turned(floor, quarters), call)
                    self.assertEqual(other, told if is_refusal(told) else turned(told, quarters))

    def test_the_pairs_on_a_floor_turned(self):
        for floor, call in many_paired(200):
            told = answer_of(pairs_on, floor)
            for quarters in (1, 2, 3, -1):
                self.assertEqual(answer_of(pairs_on, turned(floor, quarters)), told)

    def test_what_is_handed_in_stays(self):
        for floor, call in many_paired(50):
            before = list(call)
            stands = list(floor)
            told = answer_of(danced_by_pairs, floor, call)
            self.assertEqual((call, list(floor)), (before, stands))
            call.clear()
            self.assertEqual(answer_of(danced_by_pairs, floor, before), told)

    def test_moved_and_near_the_bounds(self):
        source = random.Random(2)
        for place in range(50):
            floor = moved(some_paired_floor(source), 195, 195)
            self.assertIs(is_floor(floor), True)
            self.assertEqual(danced_by_pairs(floor, read_call("> stay")), floor)


if __name__ == "__main__":
    unittest.main()
