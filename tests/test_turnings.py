"""Promises 7, 8, and 2 where it speaks of them: floors turned, and floors alike."""

import unittest

from squarecall.floors import HOME, is_floor
from squarecall.turnings import form, turned

# A floor of which no two turnings are the same, at the bounds and amid the floor too.
ODD = (
    (0, 0, 3), (200, -200, 0), (5, 7, 1), (-12, 40, 2),
    (199, 0, 3), (0, -33, 0), (-200, 200, 1), (-6, -8, 2),
)
ODD_BY_ONE = (
    (0, 0, 0), (200, 200, 1), (-7, 5, 2), (-40, -12, 3),
    (0, 199, 0), (33, 0, 1), (-200, -200, 2), (8, -6, 3),
)
ODD_BY_TWO = (
    (0, 0, 1), (-200, 200, 2), (-5, -7, 3), (12, -40, 0),
    (-199, 0, 1), (0, 33, 2), (200, -200, 3), (6, 8, 0),
)
ODD_BY_THREE = (
    (0, 0, 2), (-200, -200, 3), (7, -5, 0), (40, 12, 1),
    (0, -199, 2), (-33, 0, 3), (200, 200, 0), (-8, 6, 1),
)
ODD_TURNED = (ODD, ODD_BY_ONE, ODD_BY_TWO, ODD_BY_THREE)

FLOORS = (HOME,) + ODD_TURNED


class Turned(unittest.TestCase):
    def test_by_none_to_four_quarters(self):
        for quarters, floor in enumerate(ODD_TURNED + (ODD,)):
            with self.subTest(quarters=quarters):
                self.assertEqual(turned(ODD, quarters), floor)

    def test_home_by_a_quarter_has_each_couple_where_the_following_one_stood(self):
        for quarters in range(5):
            with self.subTest(quarters=quarters):
                places = 2 * quarters % 8
                self.assertEqual(turned(HOME, quarters), HOME[places:] + HOME[:places])

    def test_by_more_than_four(self):
        for quarters in range(4, 25):
            with self.subTest(quarters=quarters):
                self.assertEqual(turned(ODD, quarters), ODD_TURNED[quarters % 4])

    def test_below_nought_goes_to_the_right(self):
        told = {-1: ODD_BY_THREE, -2: ODD_BY_TWO, -3: ODD_BY_ONE, -4: ODD, -5: ODD_BY_THREE, -6: ODD_BY_TWO, -7: ODD_BY_ONE}
        for quarters, floor in told.items():
            with self.subTest(quarters=quarters):
                self.assertEqual(turned(ODD, quarters), floor)

    def test_by_large_numbers_of_either_sign(self):
        large = 10 ** 59
        for more, floor in enumerate(ODD_TURNED):
            with self.subTest(more=more):
                self.assertEqual(turned(ODD, large + more), floor)
                self.assertEqual(turned(ODD, -large + more), floor)
                self.assertEqual(turned(ODD, 1000000 + more), floor)
                self.assertEqual(turned(ODD, -1000000 + more), floor)
        self.assertEqual(turned(ODD, 10 ** 60 - 1), ODD_BY_THREE)
        self.assertEqual(turned(ODD, 1 - 10 ** 60), ODD_BY_ONE)

    def test_there_and_back_again(self):
        for floor in FLOORS:
            for quarters in (0, 1, 2, 3, 4, 7, -1, -6, 10 ** 59 + 3):
                with self.subTest(floor=floor, quarters=quarters):
                    self.assertEqual(turned(turned(floor, quarters), -quarters), floor)

    def test_turned_twice_is_turned_by_both(self):
        for one in range(-5, 6):
            for other in range(-5, 6):
                with self.subTest(one=one, other=other):
                    self.assertEqual(turned(turned(ODD, one), other), turned(ODD, one + other))

    def test_what_is_told_is_a_floor(self):
        for floor in FLOORS:
            for quarters in range(-4, 5):
                with self.subTest(floor=floor, quarters=quarters):
                    self.assertIs(is_floor(turned(floor, quarters)), True)

    def test_what_is_handed_in_stays(self):
        before = tuple(tuple(stand) for stand in ODD)
        turned(ODD, 1)
        self.assertEqual(ODD, before)
        self.assertEqual(HOME[0], (-1, -3, 0))

    def test_arguments_as_they_are_called(self):
        self.assertEqual(turned(quarters=1, floor=ODD), ODD_BY_ONE)


class Form(unittest.TestCase):
    def test_form_of_home(self):
        self.assertEqual(form(HOME), HOME[6:] + HOME[:6])

    def test_least_by_the_first_stand(self):
        # Dancer 0 comes to (2, 1), (-1, 2), (-2, -1), (1, -2): the third is the least.
        floor = ((2, 1, 3),) + tuple((50 + dancer, 60, 0) for dancer in range(7))
        told = ((-2, -1, 1),) + tuple((-50 - dancer, -60, 2) for dancer in range(7))
        self.assertEqual(form(floor), told)

    def test_least_by_the_facing_where_the_first_stands_amid_the_floor(self):
        self.assertEqual(form(ODD), ODD_BY_ONE)

    def test_of_a_floor_and_of_its_four_turnings(self):
        for floor in (HOME, ODD):
            for quarters in range(-4, 9):
                with self.subTest(floor=floor, quarters=quarters):
                    self.assertEqual(form(turned(floor, quarters)), form(floor))

    def test_it_is_one_of_the_turnings_and_none_is_less(self):
        for floor in FLOORS:
            turnings = [turned(floor, quarters) for quarters in range(4)]
            with self.subTest(floor=floor):
                self.assertIn(form(floor), turnings)
                self.assertTrue(all(form(floor) <= turning for turning in turnings))

    def test_form_of_a_form(self):
        for floor in FLOORS:
            with self.subTest(floor=floor):
                self.assertEqual(form(form(floor)), form(floor))

    def test_what_is_told_is_a_floor(self):
        for floor in FLOORS:
            with self.subTest(floor=floor):
                self.assertIs(is_floor(form(floor)), True)

    def test_what_is_handed_in_stays(self):
        before = tuple(tuple(stand) for stand in ODD)
        form(ODD)
        self.assertEqual(ODD, before)

    def test_argument_is_called_floor(self):
        self.assertEqual(form(floor=ODD), ODD_BY_ONE)


class Alike(unittest.TestCase):
    def test_floors_that_are_alike(self):
        for one in ODD_TURNED:
            for other in ODD_TURNED:
                with self.subTest(one=one, other=other):
                    self.assertEqual(form(one), form(other))

    def test_one_dancer_facing_elsewhere(self):
        for dancer in range(8):
            for turn in range(1, 4):
                x, y, facing = HOME[dancer]
                floor = HOME[:dancer] + ((x, y, (facing + turn) % 4),) + HOME[dancer + 1:]
                with self.subTest(dancer=dancer, turn=turn):
                    self.assertNotEqual(form(floor), form(HOME))

    def test_one_dancer_elsewhere(self):
        for dancer in range(8):
            x, y, facing = HOME[dancer]
            floor = HOME[:dancer] + ((x + 20, y, facing),) + HOME[dancer + 1:]
            with self.subTest(dancer=dancer):
                self.assertNotEqual(form(floor), form(HOME))

    def test_two_dancers_in_one_anothers_stead(self):
        self.assertNotEqual(form((HOME[1], HOME[0]) + HOME[2:]), form(HOME))
        self.assertNotEqual(form(HOME[4:6] + HOME[2:4] + HOME[:2] + HOME[6:]), form(HOME))

    def test_all_a_place_on_by_less_than_a_couple(self):
        self.assertNotEqual(form(HOME[1:] + HOME[:1]), form(HOME))

    def test_moved_or_seen_in_a_mirror(self):
        moved = tuple((x + 1, y, facing) for x, y, facing in HOME)
        self.assertNotEqual(form(moved), form(HOME))
        mirrored = tuple((-x, y, -facing % 4) for x, y, facing in HOME)
        self.assertNotEqual(form(mirrored), form(HOME))

    def test_spots_turned_without_the_facings(self):
        floor = tuple((-y, x, facing) for x, y, facing in HOME)
        self.assertNotEqual(form(floor), form(HOME))

    def test_home_and_another_floor(self):
        self.assertNotEqual(form(HOME), form(ODD))


if __name__ == "__main__":
    unittest.main()
