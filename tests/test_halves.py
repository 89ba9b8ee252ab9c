"""Promise 9, and 2 where it speaks of it: even floors, halves and wholes."""

import random
import unittest

from samples import opposite_stand, some_even_floor, with_stand
from squarecall import errors
from squarecall.errors import FloorError, Meet, NotEven
from squarecall.floors import HOME, is_floor
from squarecall.halves import half, is_even, whole
from squarecall.turnings import turned

OTHERS = (
    errors.NoCall, errors.NoName, errors.NoProgram, errors.TooMany, errors.NoPairs, errors.NoRow,
    errors.Blind, errors.Out, errors.Meet, errors.Broken,
)

# An even floor at the bounds and near (0, 0).
WIDE = (
    (200, -200, 0), (0, 1, 3), (-1, 0, 1), (57, 199, 2),
    (-200, 200, 2), (0, -1, 1), (1, 0, 3), (-57, -199, 0),
)


def exchanged(floor, one, other):
    return with_stand(with_stand(floor, one, floor[other]), other, floor[one])


def turned_at(floor, dancer, turn):
    x, y, facing = floor[dancer]
    return with_stand(floor, dancer, (x, y, (facing + turn) % 4))


def moved_at(floor, dancer, east, north):
    x, y, facing = floor[dancer]
    return with_stand(floor, dancer, (x + east, y + north, facing))


class IsEven(unittest.TestCase):
    def test_home_and_other_even_floors(self):
        for floor in (HOME, WIDE):
            for quarters in range(4):
                with self.subTest(floor=floor, quarters=quarters):
                    self.assertIs(is_even(turned(floor, quarters)), True)

    def test_one_facing_otherwise(self):
        for floor in (HOME, WIDE):
            for dancer in range(8):
                for turn in range(1, 4):
                    with self.subTest(dancer=dancer, turn=turn):
                        one = turned_at(floor, dancer, turn)
                        self.assertIs(is_even(one), False)
                        self.assertIs(is_even(turned_at(one, (dancer + 4) % 8, turn)), True)
                        self.assertIs(is_even(turned_at(one, (dancer + 4) % 8, turn + 1)), False)

    def test_one_spot_a_step_off(self):
        for dancer in range(8):
            for east, north in ((1, 0), (-1, 0), (0, 1), (0, -1)):
                with self.subTest(dancer=dancer, east=east, north=north):
                    one = moved_at(HOME, dancer, east, north)
                    self.assertIs(is_even(one), False)
                    self.assertIs(is_even(moved_at(one, (dancer + 4) % 8, -east, -north)), True)
                    self.assertIs(is_even(moved_at(one, (dancer + 4) % 8, east, north)), False)

    def test_two_dancers_exchanged(self):
        for one in range(8):
            for other in range(8):
                if one % 4 == other % 4:
                    continue
                with self.subTest(one=one, other=other):
                    floor = exchanged(HOME, one, other)
                    self.assertIs(is_even(floor), False)
                    both = exchanged(floor, (one + 4) % 8, (other + 4) % 8)
                    self.assertIs(is_even(both), True)

    def test_a_dancer_exchanged_with_the_opposite_one(self):
        for dancer in range(4):
            with self.subTest(dancer=dancer):
                self.assertIs(is_even(exchanged(HOME, dancer, dancer + 4)), True)

    def test_all_a_step_to_the_east(self):
        self.assertIs(is_even(tuple((x + 1, y, facing) for x, y, facing in HOME)), False)

    def test_alike_under_a_half_turn_but_for_the_facings(self):
        self.assertIs(is_even(tuple((x, y, 0) for x, y, facing in HOME)), False)
        self.assertIs(is_even(tuple((x, y, dancer % 4) for dancer, (x, y, facing) in enumerate(HOME))), False)

    def test_in_a_mirror_instead_of_turned(self):
        four = ((1, 1, 0), (2, 5, 1), (3, 7, 2), (4, 9, 3))
        self.assertIs(is_even(four + tuple((-x, y, -facing % 4) for x, y, facing in four)), False)

    def test_argument_is_called_floor(self):
        self.assertIs(is_even(floor=HOME), True)


class Half(unittest.TestCase):
    def test_of_even_floors(self):
        self.assertEqual(half(HOME), ((-1, -3, 0), (1, -3, 0), (3, -1, 1), (3, 1, 1)))
        self.assertEqual(half(WIDE), ((200, -200, 0), (0, 1, 3), (-1, 0, 1), (57, 199, 2)))
        self.assertIsInstance(half(HOME), tuple)

    def test_of_other_floors(self):
        for floor in (turned_at(HOME, 7, 2), moved_at(HOME, 0, 0, 1), exchanged(HOME, 4, 5), exchanged(HOME, 0, 1)):
            with self.subTest(floor=floor):
                with self.assertRaises(NotEven) as taken:
                    half(floor)
                self.assertIsInstance(taken.exception, FloorError)
                self.assertNotIsInstance(taken.exception, OTHERS)

    def test_argument_is_called_floor(self):
        self.assertEqual(half(floor=HOME), HOME[:4])


class Whole(unittest.TestCase):
    def refused(self, four, one, other):
        with self.assertRaises(Meet) as taken:
            whole(four)
        self.assertIs(type(taken.exception), Meet)
        self.assertEqual((taken.exception.one, taken.exception.other), (one, other))

    def test_of_four_stands(self):
        self.assertEqual(whole(HOME[:4]), HOME)
        self.assertEqual(whole(WIDE[:4]), WIDE)
        four = ((5, 6, 0), (-7, 8, 1), (0, 9, 2), (200, -200, 3))
        told = four + ((-5, -6, 2), (7, -8, 3), (0, -9, 0), (-200, 200, 1))
        self.assertEqual(whole(four), told)
        self.assertIs(is_floor(whole(four)), True)
        self.assertIs(is_even(whole(four)), True)

    def test_two_of_the_four_on_one_spot(self):
        for one in range(4):
            for other in range(one + 1, 4):
                for facing in range(4):
                    with self.subTest(one=one, other=other, facing=facing):
                        x, y, own = HOME[one]
                        self.refused(with_stand(HOME[:4], other, (x, y, facing)), one, other)

    def test_one_on_the_spot_opposite_to_another_ones(self):
        for one in range(4):
            for other in range(one + 1, 4):
                for facing in range(4):
                    with self.subTest(one=one, other=other, facing=facing):
                        x, y, own = HOME[one]
                        self.refused(with_stand(HOME[:4], other, (-x, -y, facing)), one, other + 4)

    def test_one_on_the_spot_amid_the_floor(self):
        for one in range(4):
            for facing in range(4):
                with self.subTest(one=one, facing=facing):
                    self.refused(with_stand(HOME[:4], one, (0, 0, facing)), one, one + 4)

    def test_several_who_meet(self):
        # Dancer 1 meets 5, but 0 meets 3.
        self.refused(((5, 5, 0), (0, 0, 0), (7, 7, 0), (5, 5, 0)), 0, 3)
        # Dancers 2 and 3 meet, and 1 meets 6 and 7.
        self.refused(((1, 1, 0), (-4, 9, 0), (4, -9, 1), (4, -9, 2)), 1, 6)
        # Dancer 0 meets 5 and 2.
        self.refused(((4, -9, 0), (-4, 9, 0), (4, -9, 1), (1, 1, 2)), 0, 2)
        # Dancer 0 meets 7, 1 meets 2.
        self.refused(((4, -9, 0), (1, 1, 0), (1, 1, 1), (-4, 9, 2)), 0, 7)
        # Dancers 2 and 3 both stand amid the floor, with their opposites.
        self.refused(((4, -9, 0), (1, 1, 0), (0, 0, 1), (0, 0, 2)), 2, 3)
        # Dancer 2 meets its opposite, 1 meets 3.
        self.refused(((4, -9, 0), (1, 1, 0), (0, 0, 1), (1, 1, 2)), 1, 3)
        self.refused(((0, 0, 0), (0, 0, 0), (0, 0, 0), (0, 0, 0)), 0, 1)

    def test_spots_with_x_or_y_alike_do_not_meet(self):
        four = ((2, 3, 0), (-2, 3, 0), (3, 2, 0), (-3, 2, 0))
        self.assertIs(is_floor(whole(four)), True)

    def test_half_of_the_whole_and_whole_of_the_half(self):
        source = random.Random(9)
        for place in range(200):
            floor = some_even_floor(source)
            with self.subTest(floor=floor):
                self.assertIs(is_even(floor), True)
                self.assertEqual(whole(half(floor)), floor)
                self.assertEqual(half(whole(floor[:4])), floor[:4])
                self.assertEqual(whole(floor[4:]), floor[4:] + floor[:4])

    def test_the_other_four_stand_opposite(self):
        for dancer, stand in enumerate(whole(WIDE[:4])[4:]):
            self.assertEqual(stand, opposite_stand(WIDE[dancer]))

    def test_what_is_refused_changes_nothing(self):
        four = ((0, 0, 0), (1, 2, 0), (3, 4, 0), (5, 6, 0))
        self.refused(four, 0, 4)
        self.refused(four, 0, 4)
        self.assertEqual(four, ((0, 0, 0), (1, 2, 0), (3, 4, 0), (5, 6, 0)))
        self.assertEqual(whole(HOME[:4]), HOME)

    def test_argument_is_called_four(self):
        self.assertEqual(whole(four=HOME[:4]), HOME)


if __name__ == "__main__":
    unittest.main()
