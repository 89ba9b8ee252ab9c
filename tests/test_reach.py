"""Promises 21 and 22, and 2 and 3 where they speak of them: floors come to, and ways home."""

import inspect
import itertools
import random
import unittest

from samples import (answer_of, counting_texts, floor_by, is_refusal, others, rows_by_all_ways, some_call,
                     some_even_floor, some_floor, way_by_all_ways, with_stand)
from squarecall.books import Book
from squarecall.dances import danced
from squarecall.errors import FloorError, TooMany
from squarecall.floors import HOME, is_floor
from squarecall.reach import reached, way_home
from squarecall.rules import read_call, shown_call
from squarecall.turnings import form, turned

TEXTS = {
    "still": "> stay",
    "veer": "> turn left",
    "unveer": "> turn right",
    "about": "> turn about",
    "hv": "head > turn left ; > stay",
    "sv": "side > turn left ; > stay",
    "up": "> ahead 1",
    "down": "> back 1",
    "trade": "at 0 2 partner > right 2 ; > left 2",
    "ring": "lefts > ahead 2 right 4 turn left ; > ahead 4 right 2 turn left",
    "lost": "inner 0 > stay",
    "crash": "> ahead 3",
    "far": "> back 9 back 9 back 9 back 9 back 9 back 9 back 9 back 9",
}
BOOK = Book(TEXTS)

# Home turned to the right is the least of its turnings.
HOME_FORM = ((-3, 1, 3), (-3, -1, 3), (-1, -3, 0), (1, -3, 0), (3, -1, 1), (3, 1, 1), (1, 3, 2), (-1, 3, 2))

FLOORS = [turned(HOME, quarters) for quarters in range(4)]


def behind(*names, floor=HOME):
    for name in names:
        floor = danced(floor, BOOK.call(name))
    return floor


def form_behind(*names):
    return form(behind(*names))


def some_reaches(count):
    """Books, floors and names, the same ones at each run."""
    source = random.Random(21)
    for place in range(count):
        texts = {name: shown_call(some_call(source)) for name in ("a", "b", "c")}
        texts.update({"up": "> ahead 1", "veer": "> turn left", "trade": TEXTS["trade"], "ring": TEXTS["ring"]})
        floor = (HOME, some_floor(source), some_even_floor(source), turned(HOME, 1))[place % 4]
        yield Book(texts), floor, source.sample(sorted(texts), 1 + place % 3), source.randrange(4)


class ReachTest(unittest.TestCase):
    def rows(self, names, length, told, floor=HOME, book=BOOK):
        with self.subTest(names=names, length=length):
            self.assertEqual(reached(book, floor, names, length), told)

    def way(self, names, length, told, floor):
        with self.subTest(names=names, length=length):
            self.assertEqual(way_home(BOOK, floor, names, length), told)

    def too_many(self, doing, *given):
        with self.assertRaises(TooMany) as taken:
            doing(*given)
        self.assertIsInstance(taken.exception, FloorError)
        self.assertNotIsInstance(taken.exception, others(TooMany))


class Reached(ReachTest):
    def test_the_first_row(self):
        self.assertEqual(form(HOME), HOME_FORM)
        for length in (0, 1, 2, 12):
            self.rows([], length, [(HOME_FORM, 0, None, None)])
            self.rows(["still"], length, [(HOME_FORM, 0, None, None)])
        for names in (["veer"], ["up", "veer"]):
            self.rows(names, 0, [(HOME_FORM, 0, None, None)])
        floor = behind("up")
        self.rows(["veer"], 0, [(form(floor), 0, None, None)], floor)

    def test_one_name(self):
        told = [
            (HOME_FORM, 0, None, None),
            (form_behind("veer"), 1, 0, "veer"),
            (form_behind("veer", "veer"), 2, 1, "veer"),
            (form_behind("unveer"), 3, 2, "veer"),
        ]
        for length, count in ((0, 1), (1, 2), (2, 3), (3, 4), (4, 4), (12, 4)):
            self.rows(["veer"], length, told[:count])

    def test_as_deep_as_told(self):
        told = [(HOME_FORM, 0, None, None)]
        told += [(form_behind(*["down"] * depth), depth, depth - 1, "down") for depth in range(1, 14)]
        for length in (0, 1, 2, 11, 12):
            self.rows(["down"], length, told[:length + 1])
        # Somewhat beyond the bounds, and not refused.
        self.rows(["down"], 13, told)
        self.rows(["down"], -1, told[:1])

    def test_several_names_in_two_orders(self):
        hv, sv = form_behind("hv"), form_behind("sv")
        both = form_behind("hv", "sv")
        first = (HOME_FORM, 0, None, None)
        self.rows(["hv", "sv"], 1, [first, (hv, 1, 0, "hv"), (sv, 1, 0, "sv")])
        self.rows(["sv", "hv"], 1, [first, (sv, 1, 0, "sv"), (hv, 1, 0, "hv")])
        self.rows(["hv", "sv"], 2, [
            first, (hv, 1, 0, "hv"), (sv, 1, 0, "sv"),
            (form_behind("hv", "hv"), 2, 1, "hv"), (both, 2, 1, "sv"), (form_behind("sv", "sv"), 2, 2, "sv")])
        self.rows(["sv", "hv"], 2, [
            first, (sv, 1, 0, "sv"), (hv, 1, 0, "hv"),
            (form_behind("sv", "sv"), 2, 1, "sv"), (both, 2, 1, "hv"), (form_behind("hv", "hv"), 2, 2, "hv")])
        self.assertEqual(len(reached(BOOK, HOME, ["hv", "sv"], 12)), 16)
        self.assertEqual(len(reached(BOOK, HOME, ["hv", "sv"], 6)), 16)
        self.assertEqual(len(reached(BOOK, HOME, ["hv", "sv"], 5)), 15)

    def test_names_that_do_the_same(self):
        self.rows(["hv", "still"], 1, [(HOME_FORM, 0, None, None), (form_behind("hv"), 1, 0, "hv")])
        book = Book({"one": "> turn left", "two": "> turn left"})
        for names in (["one", "two"], ["two", "one"]):
            self.rows(names, 1, [(HOME_FORM, 0, None, None), (form_behind("veer"), 1, 0, names[0])], book=book)

    def test_only_the_names_that_are_told(self):
        for name in TEXTS:
            for row in reached(BOOK, HOME, [name], 3)[1:]:
                self.assertEqual(row[3], name)

    def test_a_form_that_has_a_row_by_then(self):
        # The floor turned as a whole is alike, and what comes back to a form gets no row.
        self.rows(["ring"], 12, [(HOME_FORM, 0, None, None)])
        self.rows(["trade"], 12, [(HOME_FORM, 0, None, None), (form_behind("trade"), 1, 0, "trade")])
        self.rows(["up", "down"], 2, [
            (HOME_FORM, 0, None, None), (form_behind("up"), 1, 0, "up"), (form_behind("down"), 1, 0, "down"),
            (form_behind("down", "down"), 2, 2, "down")])

    def test_calls_that_are_refused_lead_nowhere(self):
        for name in ("lost", "crash"):
            self.rows([name], 12, [(HOME_FORM, 0, None, None)])
        # Behind one step up the next one is refused with Meet, and behind two far ones the third one with Out.
        self.rows(["up"], 12, [(HOME_FORM, 0, None, None), (form_behind("up"), 1, 0, "up")])
        self.rows(["far"], 12, [(HOME_FORM, 0, None, None), (form_behind("far"), 1, 0, "far"),
                                (form_behind("far", "far"), 2, 1, "far")])
        self.rows(["lost", "up", "crash", "veer"], 1, [
            (HOME_FORM, 0, None, None), (form_behind("up"), 1, 0, "up"), (form_behind("veer"), 1, 0, "veer")])
        # Refused on one form, Blind for whoever looks inward, and danced on another one.
        book = Book({"shy": "not inward > turn left", "veer": "> turn left"})
        self.rows(["shy"], 3, [(HOME_FORM, 0, None, None)], book=book)
        self.rows(["shy", "veer"], 2, [
            (HOME_FORM, 0, None, None), (form_behind("veer"), 1, 0, "veer"),
            (form_behind("veer", "veer"), 2, 1, "shy")], book=book)

    def test_from_another_floor(self):
        floor = behind("up", "hv")
        self.rows(["down"], 1, [(form(floor), 0, None, None), (form_behind("up", "hv", "down"), 1, 0, "down")], floor)
        uneven = with_stand(HOME, 0, (-1, -9, 3))
        self.rows(["veer"], 1, [(form(uneven), 0, None, None), (form(behind("veer", floor=uneven)), 1, 0, "veer")],
                  uneven)

    def test_from_floors_turned_about(self):
        for book, floor, names, length in some_reaches(24):
            told = reached(book, floor, names, length)
            for quarters in (1, 2, 3):
                with self.subTest(floor=floor, names=names, length=length):
                    self.assertEqual(reached(book, turned(floor, quarters), names, length), told)

    def test_parents_and_depths(self):
        for book, floor, names, length in some_reaches(40):
            told = reached(book, floor, names, length)
            self.assertEqual(told[0], (form(floor), 0, None, None))
            for own, depth, parent, name in told[1:]:
                with self.subTest(floor=floor, names=names, length=length):
                    self.assertEqual(depth, told[parent][1] + 1)
                    self.assertLessEqual(depth, length)
                    # The call is danced on the form of the row that is taken up.
                    self.assertEqual(own, form(danced(told[parent][0], book.call(name))))
            self.assertEqual([row[1] for row in told], sorted(row[1] for row in told))
            self.assertEqual(len({row[0] for row in told}), len(told))

    def test_many_as_all_ways_tell_them(self):
        seen = []
        for book, floor, names, length in some_reaches(160):
            with self.subTest(floor=floor, names=names, length=length):
                told = reached(book, floor, names, length)
                self.assertEqual(told, rows_by_all_ways(book, floor, names, length))
                self.assertEqual(way_home(book, floor, names, length), way_by_all_ways(book, floor, names, length))
                seen.append(len(told))
        # Else the samples would leave the greater rows untried.
        self.assertGreater(len([count for count in seen if count > 9]), 20)

    def test_kinds_and_arguments(self):
        told = reached(book=BOOK, floor=HOME, names=["veer"], length=2, most=3)
        self.assertIs(type(told), list)
        for row in told:
            self.assertIs(type(row), tuple)
            self.assertIs(is_floor(row[0]), True)
            self.assertIs(type(row[1]), int)
        self.assertEqual(inspect.signature(reached).parameters["most"].default, 2000)


class Most(ReachTest):
    def test_just_as_many_and_one_fewer(self):
        for names, length in ((["veer"], 12), (["hv", "sv"], 12), (["hv", "sv"], 3), (["down"], 12), (["up", "veer"], 4),
                              (["trade"], 1), (["lost"], 5), ([], 12), (["veer"], 0)):
            with self.subTest(names=names, length=length):
                told = reached(BOOK, HOME, names, length)
                for most in (len(told), len(told) + 1, 5000):
                    self.assertEqual(reached(BOOK, HOME, names, length, most), told)
                for most in range(max(1, len(told) - 3), len(told)):
                    self.too_many(reached, BOOK, HOME, names, length, most)

    def test_one(self):
        for names, length in (([], 12), (["veer"], 0), (["still", "ring", "lost"], 12)):
            self.assertEqual(reached(BOOK, HOME, names, length, 1), [(HOME_FORM, 0, None, None)])
        self.too_many(reached, BOOK, HOME, ["veer"], 1, 1)
        self.too_many(reached, BOOK, HOME, ["still", "lost", "trade"], 12, 1)

    def test_2000_where_none_is_told(self):
        names = ["a", "b", "c", "d", "e"]
        self.assertEqual(len(reached(Book(counting_texts(2)), HOME, names, 9)), 2000)
        self.too_many(reached, Book(counting_texts(1)), HOME, names, 9)
        self.assertEqual(len(reached(Book(counting_texts(1)), HOME, names, 9, 2001)), 2001)

    def test_what_is_refused_changes_nothing(self):
        names = ["hv", "sv"]
        self.too_many(reached, BOOK, HOME, names, 12, 15)
        self.assertEqual(names, ["hv", "sv"])
        self.assertEqual(BOOK.names(), sorted(TEXTS))
        self.assertEqual(len(reached(BOOK, HOME, names, 12, 16)), 16)


class WayHome(ReachTest):
    def test_a_floor_alike_with_home(self):
        for floor in FLOORS:
            for names in ([], ["veer"], ["still", "ring"], ["lost"]):
                for length in (0, 1, 12):
                    self.way(names, length, [], floor)

    def test_one_name(self):
        for name, back in (("veer", "unveer"), ("up", "down"), ("down", "up"), ("trade", "trade"), ("about", "about")):
            for quarters in range(4):
                floor = turned(behind(name), quarters)
                self.way([back], 1, [back], floor)
                self.way(["still", back, "lost"], 12, [back], floor)
                self.way([back], 0, None, floor)

    def test_two_and_three_names(self):
        self.way(["veer"], 2, ["veer", "veer"], behind("about"))
        self.way(["veer"], 12, ["veer", "veer", "veer"], behind("veer"))
        self.way(["veer", "up"], 2, ["veer", "up"], behind("down", "unveer"))
        self.way(["veer", "up"], 3, ["veer", "up", "veer"], behind("unveer", "down", "unveer"))
        self.way(["up", "trade"], 3, ["up", "trade"], behind("trade", "down"))
        self.way(["trade", "up"], 3, ["trade", "up"], behind("trade", "down"))
        self.way(["down"], 12, None, behind("down"))

    def test_none_where_the_length_is_one_too_short(self):
        for count in range(1, 13):
            floor = behind(*["down"] * count)
            self.way(["up", "still"], count, ["up"] * count, floor)
            self.way(["up", "still"], count - 1, None, floor)
        self.way(["veer"], 2, None, behind("veer"))
        self.way(["veer", "up"], 1, None, behind("down", "unveer"))

    def test_none_where_no_way_is(self):
        for names in ([], ["still"], ["trade"], ["lost", "still"], ["down"]):
            for length in (0, 1, 12):
                self.way(names, length, None, behind("veer"))
        self.way(["veer", "trade"], 12, None, with_stand(HOME, 3, (3, 2, 1)))

    def test_the_shortest(self):
        # Home again by three to the left, too.
        self.way(["veer", "unveer"], 12, ["unveer"], behind("veer"))
        self.way(["veer", "unveer", "about"], 12, ["about"], behind("about"))
        self.way(["hv", "sv", "unveer"], 12, ["unveer"], behind("veer"))

    def test_home_turned_is_home(self):
        # The one ring call brings all to home turned by a quarter.
        self.assertEqual(behind("ring"), turned(HOME, 1))
        part = danced(HOME, read_call("lefts > ahead 2 right 4 ; > ahead 4 right 2"))
        self.way(["veer"], 1, ["veer"], part)
        self.assertEqual(behind("veer", floor=part), turned(HOME, 1))

    def test_of_several_the_first_by_the_order_of_the_names(self):
        floor = behind("hv", "hv", "hv", "sv", "sv", "sv")
        for names in (["hv", "sv"], ["sv", "hv"]):
            self.way(names, 2, names, floor)
        floor = behind("hv", "hv", "sv", "sv", "sv")
        self.way(["hv", "sv"], 3, ["hv", "hv", "sv"], floor)
        self.way(["sv", "hv"], 3, ["sv", "hv", "hv"], floor)
        book = Book({"one": "> turn left", "two": "> turn left", "three": "> turn left"})
        for names in itertools.permutations(["one", "two", "three"]):
            self.assertEqual(way_home(book, behind("about"), list(names), 4), [names[0]] * 2)

    def test_many_as_all_ways_tell_them(self):
        source = random.Random(22)
        seen = []
        for place in range(160):
            floor = floor_by(BOOK, HOME, source.choices(["unveer", "hv", "down", "trade"], k=place % 4)) or HOME
            names = source.sample(["veer", "hv", "sv", "up", "trade", "ring", "crash"], source.randrange(2, 5))
            with self.subTest(floor=floor, names=names):
                told = way_home(BOOK, floor, names, 3)
                self.assertEqual(told, way_by_all_ways(BOOK, floor, names, 3))
                seen.append(None if told is None else len(told))
        # Else the samples would leave a sort of answer untried.
        for kind in (None, 0, 1, 2, 3):
            self.assertGreater(seen.count(kind), 2, kind)

    def test_danced_name_by_name_it_brings_home(self):
        names = ["up", "hv", "sv", "trade", "ring"]
        for start in (["down", "hv"], ["sv", "down"], ["trade", "hv", "hv"], ["down", "down", "sv"], ["ring", "up"]):
            for quarters in range(4):
                floor = turned(behind(*start), quarters)
                told = way_home(BOOK, floor, names, 4)
                with self.subTest(start=start, quarters=quarters):
                    if told is not None:
                        self.assertIn(behind(*told, floor=floor), FLOORS)
                    for length in range(4 if told is None else len(told)):
                        for way in itertools.product(names, repeat=length):
                            self.assertNotIn(floor_by(BOOK, floor, way), FLOORS)

    def test_from_floors_turned_about(self):
        for start in (["about"], ["hv", "sv"], ["down", "down"], ["trade", "down"]):
            for names in (["veer", "up", "trade"], ["trade", "up", "hv", "sv"]):
                told = way_home(BOOK, behind(*start), names, 3)
                for quarters in (1, 2, 3):
                    self.way(names, 3, told, turned(behind(*start), quarters))

    def test_kinds_and_arguments(self):
        told = way_home(book=BOOK, floor=behind("veer"), names=["veer"], length=3, most=4)
        self.assertIs(type(told), list)
        self.assertIs(way_home(BOOK, behind("veer"), ["veer"], 0), None)
        self.assertEqual(inspect.signature(way_home).parameters["most"].default, 2000)


class MostOnTheWay(ReachTest):
    def test_up_to_that_of_home(self):
        more = 0
        for start, names in ((["veer"], ["veer"]), (["hv", "sv"], ["hv", "sv"]), (["hv", "sv", "sv"], ["sv", "hv"]),
                             (["down", "hv"], ["hv", "up", "down"]), (["trade", "down"], ["veer", "trade", "up"]),
                             (["down", "down", "down"], ["veer", "up"]), (["trade"], ["hv", "sv", "trade"])):
            floor = behind(*start)
            rows = reached(BOOK, floor, names, 12, 5000)
            laid = [row[0] for row in rows].index(HOME_FORM) + 1
            told = way_home(BOOK, floor, names, 12, 5000)
            with self.subTest(start=start, names=names):
                self.assertEqual(way_home(BOOK, floor, names, 12, laid), told)
                for most in range(1, laid):
                    self.too_many(way_home, BOOK, floor, names, 12, most)
            more += len(rows) > laid
        # Else nothing would tell that no row is laid behind that of home.
        self.assertGreater(more, 3)

    def test_at_home_there_is_one_row(self):
        for floor in FLOORS:
            self.assertEqual(way_home(BOOK, floor, ["veer", "down", "trade"], 12, 1), [])

    def test_home_as_the_last_row_of_the_most(self):
        # Behind home's own row more floors would be come to by the same row that is taken up.
        floor = behind("veer")
        self.assertEqual(way_home(BOOK, floor, ["unveer", "hv", "sv", "about"], 1, 2), ["unveer"])
        self.too_many(way_home, BOOK, floor, ["hv", "unveer", "sv", "about"], 1, 2)
        self.assertEqual(way_home(BOOK, floor, ["hv", "unveer", "sv", "about"], 1, 3), ["unveer"])

    def test_where_home_is_not_come_to(self):
        for start, names, length in ((["veer"], ["trade"], 12), (["veer"], ["veer"], 2), (["down"], ["down", "hv"], 4),
                                     (["hv"], ["sv", "trade"], 12), (["up"], [], 3), (["up"], ["down"], 0)):
            floor = behind(*start)
            count = len(reached(BOOK, floor, names, length, 5000))
            with self.subTest(start=start, names=names, length=length):
                self.assertIs(way_home(BOOK, floor, names, length, count), None)
                if count > 1:
                    self.too_many(way_home, BOOK, floor, names, length, count - 1)

    def test_2000_where_none_is_told(self):
        names = ["a", "b", "c", "d", "e"]
        floor = behind("down")
        self.assertIs(way_home(Book(counting_texts(2, 11)), floor, names, 9), None)
        self.too_many(way_home, Book(counting_texts(1, 11)), floor, names, 9)
        self.assertIs(way_home(Book(counting_texts(1, 11)), floor, names, 9, 2001), None)


class Own(ReachTest):
    def test_nothing_handed_in_is_changed(self):
        for doing in (reached, way_home):
            names = ["sv", "hv", "lost", "up"]
            doing(BOOK, behind("down"), names, 3)
            self.assertEqual(names, ["sv", "hv", "lost", "up"])
            self.assertEqual(BOOK.names(), sorted(TEXTS))
            for name, text in TEXTS.items():
                self.assertEqual(shown_call(BOOK.call(name)), text)

    def test_what_is_told_is_changed_and_asked_for_again(self):
        for doing, floor in ((reached, HOME), (way_home, behind("veer")), (way_home, HOME)):
            first = doing(BOOK, floor, ["veer"], 3)
            before = list(first)
            other = doing(BOOK, floor, ["veer"], 3)
            self.assertIsNot(first, other)
            first.append("more")
            first.reverse()
            self.assertEqual(other, before)
            self.assertEqual(doing(BOOK, floor, ["veer"], 3), before)
            other.clear()
            self.assertEqual(doing(BOOK, floor, ["veer"], 3), before)

    def test_the_names_are_changed_behind_the_asking(self):
        names = ["veer"]
        rows = reached(BOOK, HOME, names, 3)
        way = way_home(BOOK, behind("veer"), names, 3)
        before = list(rows)
        names[0] = "down"
        names.append("hv")
        self.assertEqual(rows, before)
        self.assertEqual(way, ["veer"] * 3)
        self.assertEqual(reached(BOOK, HOME, ["veer"], 3), before)

    def test_refusals_are_told_as_such(self):
        self.assertEqual(answer_of(reached, BOOK, HOME, ["veer"], 3, 3), ("TooMany",))
        self.assertTrue(is_refusal(answer_of(way_home, BOOK, behind("veer"), ["veer"], 3, 3)))


if __name__ == "__main__":
    unittest.main()
