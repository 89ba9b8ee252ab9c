"""Promises 1, 2 and 3 over the whole program: the same answers at each time, in whole numbers, in a told interface."""

import importlib
import inspect
import os
import pathlib
import subprocess
import sys
import unittest

from samples import answer_of, floor_by, is_refusal
from squarecall.books import Book
from squarecall.desk import Desk
from squarecall.floors import HOME
from squarecall.fours import danced_half
from squarecall.halves import half, is_even, whole
from squarecall.pairs import pairs_on
from squarecall.programs import read_program
from squarecall.reach import reached, way_home
from squarecall.rounds import parted, round_of
from squarecall.runs import run
from squarecall.turnings import form, turned

TOP = pathlib.Path(__file__).resolve().parent.parent

INTERFACE = {
    "floors": {"is_stand": "thing", "is_floor": "thing", "spot_from": "stand ahead right", "who_at": "floor spot",
               "partner": "dancer", "opposite": "dancer"},
    "turnings": {"turned": "floor quarters", "form": "floor"},
    "halves": {"is_even": "floor", "half": "floor", "whole": "four"},
    "rules": {"read_call": "text", "shown_call": "call"},
    "sights": {"holds": "floor dancer test", "rule_for": "floor dancer call"},
    "dances": {"danced": "floor call some=None", "ways": "floor call some=None"},
    "books": {"Book": "texts"},
    "programs": {"read_program": "book text", "shown_program": "items"},
    "runs": {"run": "book floor items"},
    "pairs": {"pairs_on": "floor", "danced_by_pairs": "floor call"},
    "fours": {"danced_half": "four call"},
    "reach": {"reached": "book floor names length most=2000", "way_home": "book floor names length most=2000"},
    "rounds": {"parted": "book names length one other", "round_of": "book floor items"},
    "desk": {"Desk": ""},
}

TEXTS = {
    "veer": "> turn left",
    "up": "> ahead 1",
    "down": "> back 1",
    "trade": "at 0 2 partner > right 2 ; > left 2",
    "edge": "inner 5 > back 1 ; > turn right",
}
BOOK = Book(TEXTS)

# A talk with each row, told to a desk by a Python of its own.
TALK = """
from squarecall.desk import Desk
from squarecall.errors import FloorError
desk = Desk()
for row in ROWS:
    try:
        print(desk.say(row))
    except FloorError as error:
        print(error.__class__.__name__)
"""
ROWS = [f"call {name} {text}" for name, text in TEXTS.items()] + [
    "calls", "run down veer", "way 4", "way 1", "round edge", "pairs", "floor", "even", "alike", "where 5", "run trade", "run up up",
    "back", "home", "run couples ( veer )", "floor", "back", "back", "way 2", "back", "back", "rows"]


def shown_parameters(thing):
    return " ".join(str(parameter) for parameter in inspect.signature(thing).parameters.values())


def parts_of(told):
    """All that lies within what is told, however deep."""
    yield told
    if isinstance(told, (list, tuple)):
        for part in told:
            yield from parts_of(part)


class Interface(unittest.TestCase):
    def test_names_and_arguments(self):
        for module, things in INTERFACE.items():
            told = importlib.import_module(f"squarecall.{module}")
            for name, parameters in things.items():
                with self.subTest(module=module, name=name):
                    self.assertEqual(shown_parameters(getattr(told, name)), parameters)

    def test_methods(self):
        self.assertEqual(shown_parameters(BOOK.names), "")
        self.assertEqual(shown_parameters(BOOK.call), "name")
        self.assertEqual(shown_parameters(Desk().say), "row")


class Alike(unittest.TestCase):
    def talk(self, seed):
        told = subprocess.run(
            [sys.executable, "-c", TALK.replace("ROWS", repr(ROWS))], capture_output=True, text=True, check=True,
            env={**os.environ, "PYTHONHASHSEED": seed, "PYTHONPATH": str(TOP)})
        return told.stdout.split("\n")

    def test_at_each_time(self):
        # Python's sets and dicts are ordered otherwise from run to run, and no answer hangs on it.
        first = self.talk("0")
        self.assertEqual(len(first), len(ROWS) + 1)
        self.assertEqual(first[5], "down edge trade up veer")
        for seed in ("1", "2026", "random"):
            self.assertEqual(self.talk(seed), first)

    def test_whatever_was_asked_ahead(self):
        first = [answer_of(Desk().say, row) for row in ROWS]
        for row in ROWS:
            answer_of(Desk().say, row)
        self.assertEqual([answer_of(Desk().say, row) for row in ROWS], first)


class Whole(unittest.TestCase):
    def test_all_numbers_are_whole(self):
        items = read_program(BOOK, "2 times ( edge ) heads ( veer )")
        for told in (
                reached(BOOK, HOME, BOOK.names(), 2), way_home(BOOK, turned(HOME, 2), ["veer"], 3), run(BOOK, HOME, items),
                parted(BOOK, ["veer"], 1, items, []), round_of(BOOK, HOME, items), danced_half(HOME[:4], BOOK.call("edge")),
                half(HOME), whole(HOME[:4]), form(HOME), turned(HOME, 3), pairs_on(HOME), items, BOOK.call("trade")):
            for part in parts_of(told):
                self.assertIn(type(part), (int, str, list, tuple, type(None)))

    def test_even_floors_stay_even(self):
        for row in reached(BOOK, HOME, BOOK.names(), 4):
            self.assertIs(is_even(row[0]), True)

    def test_four_dancers_tell_all_eight_on_all_floors_come_to(self):
        for row in reached(BOOK, HOME, BOOK.names(), 3):
            for name in TEXTS:
                behind = floor_by(BOOK, row[0], [name])
                told = answer_of(danced_half, half(row[0]), BOOK.call(name))
                if is_refusal(told):
                    self.assertIs(behind, None)
                else:
                    self.assertEqual(whole(told), behind)

    def test_the_way_home_from_all_floors_come_to(self):
        # The rows tell how deep each floor lies; by calls that undo one another the way back is as long.
        book = Book({"veer": "> turn left", "unveer": "> turn right", "hv": "head > turn left ; > stay",
                     "unhv": "head > turn right ; > stay"})
        rows = reached(book, HOME, book.names(), 12)
        self.assertEqual(len(rows), 16)
        for own, depth, parent, name in rows:
            for quarters in range(4):
                floor = turned(own, quarters)
                told = way_home(book, floor, book.names(), depth)
                with self.subTest(floor=floor):
                    self.assertEqual(len(told), depth)
                    self.assertEqual(form(floor_by(book, floor, told)), form(HOME))
                    if depth > 0:
                        self.assertIs(way_home(book, floor, book.names(), depth - 1), None)

    def test_programs_that_do_not_part_end_alike_wherever_they_are_told_to(self):
        one = read_program(BOOK, "veer veer trade")
        other = read_program(BOOK, "trade 6 times ( veer )")
        for names in (["veer"], ["veer", "trade"], ["up", "down"]):
            told = parted(BOOK, names, 2, one, other)
            forms = [row[0] for row in reached(BOOK, HOME, names, 2)]
            unlike = [floor for floor in forms if answer_of(run, BOOK, floor, one)[-1] != answer_of(run, BOOK, floor, other)[-1]]
            self.assertEqual(told, unlike[0] if unlike else None)

    def test_home_is_home_behind_all(self):
        self.assertEqual(HOME, ((-1, -3, 0), (1, -3, 0), (3, -1, 1), (3, 1, 1),
                                (1, 3, 2), (-1, 3, 2), (-3, 1, 3), (-3, -1, 3)))


if __name__ == "__main__":
    unittest.main()
