"""Promises 4, 5, 6, and 2 where it speaks of them: spots, dancers, floors."""

import unittest

from squarecall.floors import HOME, is_floor, is_stand, opposite, partner, spot_from, who_at


class IntOfItsOwn(int):
    pass


class RefusesToCompare:
    def __eq__(self, other):
        raise RuntimeError("compared")

    __lt__ = __le__ = __gt__ = __ge__ = __eq__
    __hash__ = None


# No stand, no floor, and nothing that may stand within one.
OTHER_THINGS = (
    None, True, False, 0, 1, -1, 3, 8, 0.0, 1.5, float("nan"), float("inf"), 1j, "", "0", "abc", "12345678",
    b"", b"abc", bytes(8), (), [], {}, set(), frozenset(), object(), int, len, range(3), range(8), RefusesToCompare(),
)

# What may stand in the place of no number of a stand.
NO_NUMBERS = (None, True, False, 0.0, 1.0, 1j, "", "0", "1", b"1", (), (0,), [], [0], {}, object(), RefusesToCompare())


def with_stand(floor, dancer, stand):
    return floor[:dancer] + (stand,) + floor[dancer + 1:]


class Home(unittest.TestCase):
    def test_home_is_as_told(self):
        told = (
            (-1, -3, 0), (1, -3, 0), (3, -1, 1), (3, 1, 1),
            (1, 3, 2), (-1, 3, 2), (-3, 1, 3), (-3, -1, 3),
        )
        self.assertEqual(HOME, told)
        self.assertIsInstance(HOME, tuple)
        for stand in HOME:
            self.assertIsInstance(stand, tuple)

    def test_home_is_a_floor_of_stands(self):
        self.assertIs(is_floor(HOME), True)
        for stand in HOME:
            self.assertIs(is_stand(stand), True)


class Stands(unittest.TestCase):
    def test_ordinary_stands(self):
        for stand in ((0, 0, 0), (7, -12, 1), (-45, 3, 2), (199, -199, 3)):
            with self.subTest(stand=stand):
                self.assertIs(is_stand(stand), True)

    def test_each_facing_at_each_bound(self):
        for x in (-200, -199, 0, 199, 200):
            for y in (-200, -199, 0, 199, 200):
                for facing in range(4):
                    with self.subTest(x=x, y=y, facing=facing):
                        self.assertIs(is_stand((x, y, facing)), True)

    def test_beyond_the_bounds(self):
        for beyond in (-201, 201, -1000, 1000, -10 ** 59, 10 ** 59):
            for within in (-200, 0, 200):
                with self.subTest(beyond=beyond, within=within):
                    self.assertIs(is_stand((beyond, within, 0)), False)
                    self.assertIs(is_stand((within, beyond, 0)), False)
                    self.assertIs(is_stand((beyond, beyond, 0)), False)

    def test_what_is_no_facing(self):
        for facing in (-4, -1, 4, 5, 90, 10 ** 59, -10 ** 59):
            with self.subTest(facing=facing):
                self.assertIs(is_stand((0, 0, facing)), False)

    def test_what_is_no_number(self):
        for thing in NO_NUMBERS:
            with self.subTest(thing=repr(thing)):
                self.assertIs(is_stand((thing, 0, 0)), False)
                self.assertIs(is_stand((0, thing, 0)), False)
                self.assertIs(is_stand((0, 0, thing)), False)

    def test_true_and_false_beside_other_numbers(self):
        for stand in ((True, 2, 3), (2, False, 3), (2, 2, True), (2, 2, False), (True, True, True)):
            with self.subTest(stand=stand):
                self.assertIs(is_stand(stand), False)

    def test_any_other_int_is_a_whole_number(self):
        self.assertIs(is_stand((IntOfItsOwn(200), IntOfItsOwn(-200), IntOfItsOwn(3))), True)
        self.assertIs(is_stand((IntOfItsOwn(201), 0, 0)), False)

    def test_tuples_of_another_length(self):
        for thing in ((), (0,), (0, 0), (0, 0, 0, 0), (0, 0, 0, 0, 0, 0), ((0, 0, 0),), ((0, 0), 0)):
            with self.subTest(thing=thing):
                self.assertIs(is_stand(thing), False)

    def test_lists_and_other_things(self):
        for thing in ([0, 0, 0], ["x", "y", 0], {0: 0, 1: 0, 2: 0}, {1, 2, 3}, "000", HOME):
            with self.subTest(thing=repr(thing)):
                self.assertIs(is_stand(thing), False)
        for thing in OTHER_THINGS:
            with self.subTest(thing=repr(thing)):
                self.assertIs(is_stand(thing), False)

    def test_argument_is_called_thing(self):
        self.assertIs(is_stand(thing=(0, 0, 0)), True)

    def test_what_is_handed_in_stays(self):
        thing = [0, 0, [1]]
        is_stand(thing)
        self.assertEqual(thing, [0, 0, [1]])


class Floors(unittest.TestCase):
    def test_ordinary_floors(self):
        for y in (-200, 0, 200):
            floor = tuple((x, y, x % 4) for x in range(-4, 4))
            with self.subTest(y=y):
                self.assertIs(is_floor(floor), True)

    def test_spots_with_x_and_y_changed_about_are_two(self):
        floor = with_stand(with_stand(HOME, 0, (9, 5, 0)), 1, (5, 9, 0))
        self.assertIs(is_floor(floor), True)
        floor = with_stand(with_stand(HOME, 0, (5, 9, 0)), 1, (-5, -9, 0))
        self.assertIs(is_floor(floor), True)

    def test_two_dancers_on_one_spot(self):
        for one in range(8):
            for other in range(8):
                for turn in range(4):
                    if one == other:
                        continue
                    stand = HOME[other]
                    floor = with_stand(HOME, one, (stand[0], stand[1], (stand[2] + turn) % 4))
                    with self.subTest(one=one, other=other, turn=turn):
                        self.assertIs(is_floor(floor), False)

    def test_all_on_one_spot(self):
        self.assertIs(is_floor(((0, 0, 0),) * 8), False)
        self.assertIs(is_floor(((0, 0, 0), (0, 0, 1), (0, 0, 2), (0, 0, 3)) * 2), False)

    def test_fewer_and_more_than_eight_stands(self):
        self.assertIs(is_floor(HOME[:7]), False)
        self.assertIs(is_floor(HOME[1:]), False)
        self.assertIs(is_floor(HOME + ((9, 9, 0),)), False)
        self.assertIs(is_floor(HOME + HOME[:1]), False)
        self.assertIs(is_floor(()), False)
        self.assertIs(is_floor(HOME[:1]), False)
        self.assertIs(is_floor(HOME + tuple((x + 50, y, f) for x, y, f in HOME)), False)

    def test_one_that_is_no_stand(self):
        wrong = (
            (201, 0, 0), (-201, 0, 0), (0, 201, 0), (0, -201, 0), (0, 0, 4), (0, 0, -1),
            (True, 9, 0), (9, False, 0), (9, 9, True), (9.0, 9, 0), ("9", 9, 0), [9, 9, 0], ([], 9, 0), (9, 9), (9, 9, 0, 0),
        )
        for dancer in range(8):
            for stand in wrong + OTHER_THINGS:
                with self.subTest(dancer=dancer, stand=repr(stand)):
                    self.assertIs(is_floor(with_stand(HOME, dancer, stand)), False)

    def test_bounds_within_a_floor(self):
        for dancer in range(8):
            for stand in ((200, 200, 0), (-200, 200, 1), (200, -200, 2), (-200, -200, 3)):
                with self.subTest(dancer=dancer, stand=stand):
                    self.assertIs(is_floor(with_stand(HOME, dancer, stand)), True)

    def test_lists_and_other_things(self):
        for thing in (list(HOME), [list(stand) for stand in HOME], tuple(list(stand) for stand in HOME),
                      dict(enumerate(HOME)), set(HOME), (None,) * 8, (0,) * 8, HOME[0], (HOME,), (HOME,) * 8):
            with self.subTest(thing=repr(thing)):
                self.assertIs(is_floor(thing), False)
        for thing in OTHER_THINGS:
            with self.subTest(thing=repr(thing)):
                self.assertIs(is_floor(thing), False)

    def test_argument_is_called_thing(self):
        self.assertIs(is_floor(thing=HOME), True)

    def test_what_is_handed_in_stays(self):
        thing = [list(stand) for stand in HOME]
        is_floor(thing)
        is_floor(tuple(thing))
        self.assertEqual(thing, [list(stand) for stand in HOME])

    def test_changing_what_was_handed_in_changes_no_later_answer(self):
        thing = list(HOME)
        is_floor(tuple(thing))
        thing[0] = thing[1]
        self.assertIs(is_floor(tuple(thing)), False)
        self.assertIs(is_floor(HOME), True)


class SpotFrom(unittest.TestCase):
    def test_all_four_facings(self):
        # (facing, ahead, right) to the spot as it is come to from (10, 20).
        told = {
            (0, 3, 0): (10, 23), (1, 3, 0): (7, 20), (2, 3, 0): (10, 17), (3, 3, 0): (13, 20),
            (0, -3, 0): (10, 17), (1, -3, 0): (13, 20), (2, -3, 0): (10, 23), (3, -3, 0): (7, 20),
            (0, 0, 2): (12, 20), (1, 0, 2): (10, 22), (2, 0, 2): (8, 20), (3, 0, 2): (10, 18),
            (0, 0, -2): (8, 20), (1, 0, -2): (10, 18), (2, 0, -2): (12, 20), (3, 0, -2): (10, 22),
            (0, 5, 1): (11, 25), (1, 5, 1): (5, 21), (2, 5, 1): (9, 15), (3, 5, 1): (15, 19),
            (0, -5, 1): (11, 15), (1, -5, 1): (15, 21), (2, -5, 1): (9, 25), (3, -5, 1): (5, 19),
            (0, 5, -1): (9, 25), (1, 5, -1): (5, 19), (2, 5, -1): (11, 15), (3, 5, -1): (15, 21),
            (0, -5, -1): (9, 15), (1, -5, -1): (15, 19), (2, -5, -1): (11, 25), (3, -5, -1): (5, 21),
        }
        for (facing, ahead, right), spot in told.items():
            with self.subTest(facing=facing, ahead=ahead, right=right):
                self.assertEqual(spot_from((10, 20, facing), ahead, right), spot)

    def test_none_of_both_is_the_own_spot(self):
        for stand in HOME + ((0, 0, 0), (200, -200, 1), (-200, 200, 3)):
            with self.subTest(stand=stand):
                self.assertEqual(spot_from(stand, 0, 0), stand[:2])

    def test_beyond_the_bounds_of_a_spot(self):
        self.assertEqual(spot_from((200, 200, 0), 1, 1), (201, 201))
        self.assertEqual(spot_from((-200, 200, 1), 1, 1), (-201, 201))
        self.assertEqual(spot_from((-200, -200, 2), 1, 1), (-201, -201))
        self.assertEqual(spot_from((200, -200, 3), 1, 1), (201, -201))
        self.assertEqual(spot_from((0, 0, 0), 1000, -5000), (-5000, 1000))
        far = 10 ** 59
        self.assertEqual(spot_from((1, 2, 1), far, -far), (1 - far, 2 - far))

    def test_from_any_x_and_y(self):
        self.assertEqual(spot_from((500, -700, 3), 4, 6), (504, -706))
        self.assertEqual(spot_from((-10 ** 59, 10 ** 59, 2), -1, 0), (-10 ** 59, 10 ** 59 + 1))

    def test_a_tuple_of_two_whole_numbers(self):
        for facing in range(4):
            spot = spot_from((0, 0, facing), 0, 0)
            self.assertEqual([type(spot)] + [type(number) for number in spot], [tuple, int, int])

    def test_arguments_as_they_are_called(self):
        self.assertEqual(spot_from(right=2, ahead=1, stand=(0, 0, 0)), (2, 1))


class WhoAt(unittest.TestCase):
    def test_each_dancers_spot(self):
        for dancer, (x, y, facing) in enumerate(HOME):
            with self.subTest(dancer=dancer):
                self.assertEqual(who_at(HOME, (x, y)), dancer)

    def test_dancer_nought_is_told_as_a_number(self):
        told = who_at(HOME, (-1, -3))
        self.assertIs(type(told), int)
        self.assertEqual(told, 0)

    def test_an_empty_spot(self):
        for spot in ((0, 0), (-3, 3), (2, -3), (-1, -2), (200, 200), (-200, -200)):
            with self.subTest(spot=spot):
                self.assertIsNone(who_at(HOME, spot))

    def test_what_is_no_spot(self):
        floor = with_stand(HOME, 4, (200, -200, 0))
        self.assertEqual(who_at(floor, (200, -200)), 4)
        for spot in ((201, -200), (200, -201), (-201, 200), (10 ** 59, -10 ** 59)):
            with self.subTest(spot=spot):
                self.assertIsNone(who_at(floor, spot))

    def test_x_and_y_are_not_changed_about(self):
        floor = with_stand(HOME, 6, (17, 40, 2))
        self.assertEqual(who_at(floor, (17, 40)), 6)
        self.assertIsNone(who_at(floor, (40, 17)))

    def test_where_a_dancer_has_gone_away(self):
        floor = with_stand(HOME, 0, (50, 50, 0))
        self.assertIsNone(who_at(floor, (-1, -3)))
        self.assertEqual(who_at(floor, (50, 50)), 0)
        self.assertEqual(who_at(HOME, (-1, -3)), 0)

    def test_arguments_as_they_are_called(self):
        self.assertEqual(who_at(spot=(3, 1), floor=HOME), 3)


class PartnersAndOpposites(unittest.TestCase):
    def test_partner_of_all_eight(self):
        self.assertEqual([partner(dancer) for dancer in range(8)], [1, 0, 3, 2, 5, 4, 7, 6])

    def test_opposite_of_all_eight(self):
        self.assertEqual([opposite(dancer) for dancer in range(8)], [4, 5, 6, 7, 0, 1, 2, 3])

    def test_whole_numbers_are_told(self):
        for dancer in range(8):
            self.assertEqual([type(partner(dancer)), type(opposite(dancer))], [int, int])

    def test_argument_is_called_dancer(self):
        self.assertEqual(partner(dancer=5), 4)
        self.assertEqual(opposite(dancer=5), 1)


if __name__ == "__main__":
    unittest.main()
