"""Promises 17 and 19, and 2 and 3 where they speak of them: programs run from a floor."""

import copy
import itertools
import random
import unittest

from samples import (answer_of, floor_of_pairs, floor_with, is_refusal, others, some_call, some_even_floor, some_floor,
                     some_items, some_paired_floor, with_stand)
from squarecall.books import Book
from squarecall.dances import danced
from squarecall.errors import Blind, Broken, FloorError, Meet, NoPairs, Out, TooMany
from squarecall.floors import HOME, is_floor
from squarecall.pairs import danced_by_pairs
from squarecall.programs import read_program
from squarecall.rules import read_call, shown_call
from squarecall.runs import run
from squarecall.turnings import turned

TEXTS = {
    "still": "> stay",
    "up": "> ahead 1",
    "down": "> back 1",
    "veer": "> turn left",
    "trade": "at 0 2 partner > right 2 ; > left 2",
    "pass": "> ahead 6",
    "crash": "> ahead 3",
    "lost": "inner 0 > stay",
    "headless": "side > stay",
    "far": "> back 9 back 9 back 9 back 9 back 9 back 9 back 9 back 9",
}
BOOK = Book(TEXTS)
CALLS = {name: read_call(text) for name, text in TEXTS.items()}

HEADS = [0, 1, 4, 5]
SIDES = [2, 3, 6, 7]


def run_text(text, floor=HOME, book=BOOK):
    return run(book, floor, read_program(book, text))


def rows_of(items):
    """A program as a flat row: brackets that open, close, and calls."""
    for item in items:
        if item[0] == "call":
            yield item
        else:
            for time in range(item[1] if item[0] == "times" else 1):
                yield ("open", *item[:-1])
                yield from rows_of(item[-1])
                yield ("close",)


def model_run(book, floor, items):
    """The floors behind each call, or the refusal, by such a row and a pile of who would dance."""
    such = {"heads": HEADS, "sides": SIDES, "lefts": [0, 2, 4, 6], "rights": [1, 3, 5, 7]}
    floors = []
    pile = [(set(range(8)), False)]
    for row in rows_of(items):
        some, couples = pile[-1]
        if row[0] == "close":
            pile.pop()
        elif row[0] == "open":
            if row[1] == "some":
                some = some & set(such[row[2]])
            if row[1] == "inner":
                some = some & {dancer for dancer in range(8) if max(map(abs, floor[dancer][:2])) <= row[2]}
            pile.append((some, couples or row[1] == "couples"))
        else:
            if len(floors) == 400:
                return ("TooMany",)
            if couples:
                told = answer_of(danced_by_pairs, floor, book.call(row[1])) if len(some) == 8 else ("NoPairs",)
            else:
                told = answer_of(danced, floor, book.call(row[1]), sorted(some))
            if is_refusal(told):
                return ("Broken", len(floors), told)
            floor = told
            floors.append(floor)
    return floors


def some_runs(count):
    """Books, floors and programs, the same ones at each run."""
    source = random.Random(17)
    for place in range(count):
        texts = {name: shown_call(some_call(source)) for name in ("a", "b", "c", "d")}
        texts.update({"up": "> ahead 1", "veer": "> turn left", "still": "> stay", "slide": "lefts > back 2 ; > left 1"})
        book = Book(texts)
        floor = (HOME, some_floor(source), some_even_floor(source), some_paired_floor(source))[place % 4]
        names = book.names() if place % 3 == 0 else ["up", "veer", "still", "slide"]
        yield book, floor, some_items(source, names)


class RunTest(unittest.TestCase):
    def told(self, text, floors, floor=HOME, book=BOOK):
        with self.subTest(text=text):
            self.assertEqual(run_text(text, floor, book), floors)

    def refused(self, text, told, floor=HOME, book=BOOK):
        with self.subTest(text=text):
            self.assertEqual(answer_of(run_text, text, floor, book), told)


class Told(RunTest):
    def test_no_call(self):
        self.told("", [])
        self.told("", [], book=Book({}))

    def test_one_call(self):
        up = ((-1, -2, 0), (1, -2, 0), (2, -1, 1), (2, 1, 1), (1, 2, 2), (-1, 2, 2), (-2, 1, 3), (-2, -1, 3))
        self.told("up", [up])
        self.told("still", [HOME])

    def test_several_calls_in_their_order(self):
        up = danced(HOME, CALLS["up"])
        veer = danced(up, CALLS["veer"])
        self.told("up veer up", [up, veer, danced(veer, CALLS["up"])])
        veer = danced(HOME, CALLS["veer"])
        self.told("veer up", [veer, danced(veer, CALLS["up"])])
        self.told("up down up down", [up, HOME, up, HOME])

    def test_from_another_floor(self):
        floor = tuple((x, 0, 3) for x in range(8))
        self.told("up up", [tuple((x + 1, 0, 3) for x in range(8)), tuple((x + 2, 0, 3) for x in range(8))], floor)

    def test_times(self):
        for number in (1, 2, 7, 60):
            self.told(f"{number} times ( down )",
                      [tuple(danced_far(stand, count) for stand in HOME) for count in range(1, number + 1)])
        self.told("2 times ( up veer )", run_text("up veer up veer"))
        self.told("2 times ( up 3 times ( veer still ) ) down", run_text(
            "up veer still veer still veer still up veer still veer still veer still down"))
        self.told("60 times ( veer )", [dance_all(HOME, "veer", count) for count in range(1, 61)])

    def test_each_word_for_some(self):
        for word, some in (("heads", HEADS), ("sides", SIDES), ("lefts", [0, 2, 4, 6]), ("rights", [1, 3, 5, 7])):
            behind = danced(HOME, CALLS["down"], some)
            self.told(f"{word} ( down )", [behind])
            self.told(f"{word} ( down down )", [behind, danced(behind, CALLS["down"], some)])
            self.told(f"{word} ( down ) veer", [behind, danced(behind, CALLS["veer"])])

    def test_some_within_one_another(self):
        for (one, some), (other, more) in itertools.product((
                ("heads", HEADS), ("sides", SIDES), ("lefts", [0, 2, 4, 6]), ("rights", [1, 3, 5, 7])), repeat=2):
            both = [dancer for dancer in some if dancer in more]
            self.told(f"{one} ( {other} ( down ) )", [danced(HOME, CALLS["down"], both)])
        self.told("heads ( lefts ( veer ) rights ( down ) still )", [
            with_stand(with_stand(HOME, 0, (-1, -3, 1)), 4, (1, 3, 3)),
            ((-1, -3, 1), (1, -4, 0)) + HOME[2:4] + ((1, 3, 3), (-1, 4, 2)) + HOME[6:],
            ((-1, -3, 1), (1, -4, 0)) + HOME[2:4] + ((1, 3, 3), (-1, 4, 2)) + HOME[6:]])

    def test_one_alone_is_left(self):
        floor = with_stand(with_stand(HOME, 4, (1, 7, 2)), 5, (-1, 7, 2))
        self.told("heads ( lefts ( inner 3 ( down ) ) )", [with_stand(floor, 0, (-1, -4, 0))], floor)
        self.told("inner 3 ( rights ( heads ( veer ) ) )", [with_stand(floor, 1, (1, -3, 1))], floor)

    def test_a_call_danced_by_nobody_leaves_the_floor_and_is_counted(self):
        for text in ("heads ( sides ( up ) )", "lefts ( rights ( far ) )", "inner 2 ( lost )", "inner 0 ( headless )",
                     "heads ( inner 2 ( crash ) )", "sides ( lefts ( heads ( lost ) ) )"):
            self.told(text, [HOME])
            self.told(f"{text} {text}", [HOME, HOME])
            self.told(f"{text} up", [HOME, danced(HOME, CALLS["up"])])
            self.refused(f"{text} {text} lost", ("Broken", 2, ("Blind", 0)))
        self.told("2 times ( heads ( sides ( up up ) ) )", [HOME] * 4)

    def test_those_who_stay_are_passed_and_seen(self):
        self.told("heads ( pass )", [danced(HOME, CALLS["pass"], HEADS)])
        book = Book({"look": "at 2 2 any > turn left ; > turn right"})
        self.told("heads ( look )", [danced(HOME, read_call("at 2 2 any > turn left ; > turn right"), HEADS)], book=book)

    def test_brackets_end_where_they_end(self):
        self.told("heads ( up ) up", [danced(HOME, CALLS["up"], HEADS), danced(danced(HOME, CALLS["up"], HEADS), CALLS["up"])])
        heads = danced(HOME, CALLS["down"], HEADS)
        sides = danced(heads, CALLS["down"], SIDES)
        self.told("heads ( down ) sides ( down )", [heads, sides])
        self.told("2 times ( heads ( down ) ) down", [heads, danced(heads, CALLS["down"], HEADS),
                                                     danced(danced(heads, CALLS["down"], HEADS), CALLS["down"])])

    def test_six_open_at_once(self):
        behind = danced(HOME, CALLS["down"], [0, 4])
        self.told("heads ( lefts ( inner 200 ( 2 times ( heads ( inner 9 ( down ) ) ) ) ) )",
                  [behind, danced(behind, CALLS["down"], [0, 4])])

    def test_kinds(self):
        floors = run(items=read_program(BOOK, "up heads ( veer )"), floor=HOME, book=BOOK)
        self.assertIs(type(floors), list)
        self.assertEqual([is_floor(floor) for floor in floors], [True, True])

    def test_many_runs_as_the_model_tells_them(self):
        seen = []
        for book, floor, items in some_runs(700):
            with self.subTest(floor=floor, items=items):
                told = answer_of(run, book, floor, items)
                self.assertEqual(told, model_run(book, floor, items))
                seen.append(told[2][0] if is_refusal(told) else "floors")
        # Else the samples would leave a sort of answer untried.
        for kind in ("floors", "NoPairs", "Blind", "Meet"):
            self.assertGreater(seen.count(kind), 20, kind)


def danced_far(stand, count):
    x, y, facing = stand
    east, north = ((0, 1), (-1, 0), (0, -1), (1, 0))[facing]
    return (x - east * count, y - north * count, facing)


def dance_all(floor, name, count):
    for time in range(count):
        floor = danced(floor, CALLS[name])
    return floor


class Inner(RunTest):
    def setUp(self):
        # The heads at 3 from the middle, the sides at 5.
        self.floor = tuple(danced_far(stand, 2) if dancer in SIDES else stand for dancer, stand in enumerate(HOME))

    def test_at_its_edge(self):
        heads = danced(self.floor, CALLS["down"], HEADS)
        both = danced(self.floor, CALLS["down"])
        for number, floor in ((0, self.floor), (2, self.floor), (3, heads), (4, heads), (5, both), (200, both)):
            self.told(f"inner {number} ( down )", [floor], self.floor)

    def test_by_the_floor_at_which_its_bracket_begins(self):
        # Behind the first call the heads are at 4: they dance on, for the bracket began with them at 3.
        once = danced(self.floor, CALLS["down"], HEADS)
        self.told("inner 3 ( down down )", [once, danced(once, CALLS["down"], HEADS)], self.floor)
        self.told("inner 3 ( 2 times ( down ) )", [once, danced(once, CALLS["down"], HEADS)], self.floor)

    def test_who_has_come_inside_ahead_of_the_bracket(self):
        floor = danced(self.floor, CALLS["up"], SIDES)
        self.told("inner 3 ( still veer )", [self.floor, danced(self.floor, CALLS["veer"], HEADS)], self.floor)
        self.told("sides ( up up ) inner 3 ( veer )", [floor, HOME, danced(HOME, CALLS["veer"])], self.floor)

    def test_each_time_that_it_begins(self):
        once = danced(self.floor, CALLS["down"], HEADS)
        self.told("2 times ( inner 3 ( down ) )", [once, once], self.floor)
        self.told("3 times ( inner 4 ( down ) )", [once, danced(once, CALLS["down"], HEADS)] + [
            danced(once, CALLS["down"], HEADS)], self.floor)
        self.told("inner 3 ( down ) inner 3 ( down )", [once, once], self.floor)
        self.told("inner 3 ( down ) down inner 4 ( veer )", [
            once, danced(once, CALLS["down"]), danced(once, CALLS["down"])], self.floor)

    def test_each_time_with_others(self):
        # First the heads alone are inside; then, the sides gone up and the heads gone off, the sides alone.
        one = danced(self.floor, CALLS["veer"], HEADS)
        floors = run_text("2 times ( inner 3 ( veer ) heads ( far ) sides ( up up ) )", self.floor)
        self.assertEqual(floors[0], one)
        self.assertEqual([floors[4][dancer][2] for dancer in range(8)],
                         [(floors[3][dancer][2] + (dancer in SIDES)) % 4 for dancer in range(8)])

    def test_one_within_another_one(self):
        # The inner one by the floor behind the first call: heads at 4, sides at 6.
        floor = danced(self.floor, CALLS["down"])
        self.told("inner 5 ( down inner 4 ( veer ) )", [floor, danced(floor, CALLS["veer"], HEADS)], self.floor)
        self.told("inner 5 ( down inner 3 ( veer ) )", [floor, floor], self.floor)
        once = danced(self.floor, CALLS["down"], HEADS)
        self.told("inner 3 ( down inner 200 ( veer ) )", [once, danced(once, CALLS["veer"], HEADS)], self.floor)

    def test_those_of_them_who_would_dance_without_it(self):
        lefts = danced(self.floor, CALLS["down"], [0, 4])
        self.told("lefts ( inner 3 ( down ) )", [lefts], self.floor)
        self.told("inner 3 ( lefts ( down ) )", [lefts], self.floor)
        self.told("sides ( inner 3 ( down ) )", [self.floor], self.floor)

    def test_both_x_and_y(self):
        floor = floor_with({0: (3, 0, 0), 1: (0, 4, 0), 2: (-4, 2, 0), 3: (2, -4, 0), 4: (3, -3, 0), 5: (-3, 3, 0)})
        self.told("inner 3 ( veer )", [danced(floor, CALLS["veer"], [0, 4, 5])], floor)


class Refused(RunTest):
    def test_at_the_first_call(self):
        self.refused("lost", ("Broken", 0, ("Blind", 0)))
        self.refused("headless", ("Broken", 0, ("Blind", 0)))
        self.refused("crash", ("Broken", 0, ("Meet", 0, 5)))
        self.refused("far", ("Broken", 0, ("Out", 0)), with_stand(HOME, 0, (-1, -150, 0)))
        self.refused("couples ( up )", ("Broken", 0, ("NoPairs",)), with_stand(HOME, 0, (-1, -150, 0)))

    def test_behind_several(self):
        self.refused("up down lost up", ("Broken", 2, ("Blind", 0)))
        self.refused("still still still crash", ("Broken", 3, ("Meet", 0, 5)))
        self.refused("far far far", ("Broken", 2, ("Out", 0)))
        self.refused("5 times ( veer ) heads ( couples ( up ) )", ("Broken", 5, ("NoPairs",)))
        self.refused("up up up", ("Broken", 1, ("Meet", 0, 7)))
        self.refused("10 times ( up )", ("Broken", 1, ("Meet", 0, 7)))

    def test_within_brackets_by_those_who_dance(self):
        self.refused("sides ( lost )", ("Broken", 0, ("Blind", 2)))
        self.refused("heads ( still sides ( lost ) rights ( lost ) )", ("Broken", 2, ("Blind", 1)))
        self.refused("sides ( crash )", ("Broken", 0, ("Meet", 2, 7)))
        self.refused("rights ( far far far )", ("Broken", 2, ("Out", 1)))
        self.told("sides ( headless )", [HOME])
        self.refused("inner 3 ( rights ( sides ( up lost ) ) )", ("Broken", 1, ("Blind", 3)))
        self.refused("heads ( up ) 4 times ( sides ( up ) )", ("Broken", 3, ("Meet", 2, 7)))

    def test_why_is_the_refusal_itself(self):
        for text, kind in (("lost", Blind), ("crash", Meet), ("far far far", Out), ("heads ( couples ( up ) )", NoPairs)):
            with self.assertRaises(Broken) as taken:
                run_text(text)
            self.assertIsInstance(taken.exception, FloorError)
            self.assertNotIsInstance(taken.exception, others(Broken))
            self.assertIsInstance(taken.exception.why, kind)
            self.assertNotIsInstance(taken.exception.why, others(kind))
            self.assertIs(type(taken.exception.at), int)

    def test_what_is_refused_changes_nothing(self):
        items = read_program(BOOK, "up 2 times ( heads ( lost ) )")
        for attempt in range(2):
            self.assertEqual(answer_of(run, BOOK, HOME, items), ("Broken", 1, ("Blind", 0)))
            self.assertEqual(items, read_program(BOOK, "up 2 times ( heads ( lost ) )"))
        self.told("up", [danced(HOME, CALLS["up"])])


class TooManyCalls(RunTest):
    def test_four_hundred(self):
        for text in ("50 times ( 8 times ( veer ) )", "40 times ( 5 times ( veer still ) )",
                     "60 times ( 6 times ( veer ) ) 40 times ( veer )", " ".join(["veer"] * 400)):
            floors = run_text(text)
            self.assertEqual(len(floors), 400)
            self.assertEqual(floors[-1], HOME)
            self.assertEqual(floors[0], danced(HOME, CALLS["veer"]))

    def test_another_one(self):
        for text in ("50 times ( 8 times ( veer ) ) veer", " ".join(["veer"] * 401), "60 times ( 7 times ( veer ) )",
                     "60 times ( 60 times ( 60 times ( 60 times ( 60 times ( 60 times ( still ) ) ) ) ) )",
                     "40 times ( 10 times ( veer ) ) heads ( sides ( up ) )",
                     "40 times ( 10 times ( heads ( sides ( up ) ) ) ) still"):
            self.refused(text, ("TooMany",))
            with self.assertRaises(TooMany) as taken:
                run_text(text)
            self.assertNotIsInstance(taken.exception, others(TooMany))

    def test_a_call_that_would_be_refused(self):
        full = "40 times ( 10 times ( veer ) )"
        for text in ("lost", "crash", "headless", "heads ( couples ( up ) )", "couples ( lost )", "couples ( crash )",
                     "2 times ( lost )", "inner 3 ( crash )", "lost lost"):
            self.refused(f"{full} {text}", ("TooMany",))
        almost = "57 times ( 7 times ( veer ) )"
        self.refused(f"{almost} lost", ("Broken", 399, ("Blind", 0)))
        self.refused(f"{almost} still lost", ("TooMany",))
        self.refused(f"{almost} heads ( couples ( up ) )", ("Broken", 399, ("NoPairs",)))
        self.assertEqual(len(run_text(f"{almost} still")), 400)

    def test_by_couples_too(self):
        self.assertEqual(len(run_text("couples ( 40 times ( 10 times ( veer ) ) )")), 400)
        self.refused("couples ( 40 times ( 10 times ( veer ) ) veer )", ("TooMany",))
        self.refused("40 times ( couples ( 10 times ( veer ) ) ) still", ("TooMany",))

    def test_a_run_begins_anew(self):
        for attempt in range(2):
            self.assertEqual(len(run_text("50 times ( 8 times ( still ) )")), 400)


class Couples(RunTest):
    def test_all_calls_of_the_bracket_by_pairs(self):
        once = danced_by_pairs(HOME, CALLS["veer"])
        self.assertNotEqual(once, danced(HOME, CALLS["veer"]))
        self.told("couples ( veer )", [once])
        self.told("couples ( veer down veer )", [
            once, danced_by_pairs(once, CALLS["down"]), danced_by_pairs(danced_by_pairs(once, CALLS["down"]), CALLS["veer"])])

    def test_only_those_of_the_bracket(self):
        once = danced_by_pairs(HOME, CALLS["veer"])
        self.told("couples ( veer ) veer", [once, danced(once, CALLS["veer"])])
        first = danced(HOME, CALLS["down"])
        self.told("down couples ( veer )", [first, danced_by_pairs(first, CALLS["veer"])])
        self.told("2 times ( down couples ( veer ) )", run_text("down couples ( veer ) down couples ( veer )"))

    def test_within_times_and_times_within(self):
        floors = [danced_by_pairs(HOME, CALLS["veer"])]
        for time in range(3):
            floors.append(danced_by_pairs(floors[-1], CALLS["veer"]))
        self.assertEqual(floors[-1], HOME)
        self.told("4 times ( couples ( veer ) )", floors)
        self.told("couples ( 4 times ( veer ) )", floors)
        self.told("couples ( couples ( veer ) veer ) couples ( couples ( couples ( veer veer ) ) )", floors)

    def test_within_inner_where_all_are_inner(self):
        once = danced_by_pairs(HOME, CALLS["veer"])
        for text in ("inner 3 ( couples ( veer ) )", "couples ( inner 3 ( veer ) )", "inner 200 ( couples ( inner 3 ( veer ) ) )"):
            self.told(text, [once])

    def test_where_not_all_would_dance(self):
        for word in ("heads", "sides", "lefts", "rights", "inner 2", "inner 0"):
            self.refused(f"{word} ( couples ( veer ) )", ("Broken", 0, ("NoPairs",)))
            self.refused(f"couples ( {word} ( veer ) )", ("Broken", 0, ("NoPairs",)))
            self.refused(f"couples ( still {word} ( still ) )", ("Broken", 1, ("NoPairs",)))
            self.refused(f"inner 3 ( couples ( veer {word} ( still ) ) )", ("Broken", 1, ("NoPairs",)))
        self.refused("heads ( sides ( couples ( veer ) ) )", ("Broken", 0, ("NoPairs",)))
        self.refused("couples ( heads ( sides ( still ) ) )", ("Broken", 0, ("NoPairs",)))

    def test_where_not_all_would_dance_it_comes_ahead_of_other_refusals(self):
        for name in ("lost", "crash", "headless"):
            self.refused(f"heads ( couples ( {name} ) )", ("Broken", 0, ("NoPairs",)))
            self.refused(f"couples ( heads ( {name} ) )", ("Broken", 0, ("NoPairs",)))

    def test_where_one_alone_would_not_dance(self):
        # The pair (2, 3) stands with its right one just beyond 50.
        floor = floor_of_pairs({(0, 1): (0, 0, 0), (2, 3): (50, 9, 0), (4, 5): (0, 18, 0), (6, 7): (0, 27, 0)})
        self.refused("couples ( inner 50 ( still ) )", ("Broken", 0, ("NoPairs",)), floor)
        self.told("couples ( inner 51 ( still ) )", [floor], floor)

    def test_refusals_by_pairs(self):
        self.refused("couples ( lost )", ("Broken", 0, ("Blind", 0)))
        self.refused("couples ( headless )", ("Broken", 0, ("Blind", 0)))
        self.refused("couples ( veer veer crash crash )", ("Broken", 3, ("Out", 0)), floor_of_pairs(
            {(0, 1): (0, 195, 2), (2, 3): (50, 0, 0), (4, 5): (80, 0, 0), (6, 7): (110, 0, 0)}))
        self.refused("couples ( still crash )", ("Broken", 1, ("Meet", 0, 5)))
        floor = with_stand(HOME, 7, (-3, -2, 3))
        self.refused("still couples ( up )", ("Broken", 1, ("NoPairs",)), floor)

    def test_pairs_are_newly_told_at_each_call(self):
        # Behind the first call two pairs have one middle.
        floor = floor_of_pairs({(0, 1): (0, -3, 0), (2, 3): (3, 0, 1), (4, 5): (100, 100, 0), (6, 7): (100, -100, 0)})
        book = Book({"go": "inner 50 > ahead 3 ; > stay", "still": "> stay"})
        behind = danced_by_pairs(floor, book.call("go"))
        self.told("couples ( go )", [behind], floor, book)
        self.refused("couples ( go still )", ("Broken", 1, ("NoPairs",)), floor, book)
        self.refused("couples ( 2 times ( still ) go ) couples ( still )", ("Broken", 3, ("NoPairs",)), floor, book)
        self.told("couples ( go ) go", [behind, danced(behind, book.call("go"))], floor, book)

    def test_other_pairs_behind_a_call_by_all(self):
        # All turn about: each one's right hand is the left one of before.
        book = Book({"about": "> turn about", "swing": "> turn left", "mark": "lefts > stay ; > stay"})
        about = danced(HOME, book.call("about"))
        self.told("about couples ( swing )", [about, danced_by_pairs(about, book.call("swing"))], book=book)
        self.assertEqual(run_text("about couples ( swing )", book=book)[1][:2], ((0, -4, 3), (0, -2, 3)))


class Turned(RunTest):
    def test_from_a_floor_turned(self):
        for book, floor, items in some_runs(300):
            told = answer_of(run, book, floor, items)
            for quarters in (1, 2, 3, -1):
                with self.subTest(floor=floor, items=items, quarters=quarters):
                    other = answer_of(run, book, turned(floor, quarters), items)
                    self.assertEqual(other, told if is_refusal(told) else [turned(row, quarters) for row in told])

    def test_a_program_of_each_kind(self):
        text = "2 times ( up heads ( veer ) inner 2 ( sides ( veer ) ) ) couples ( down veer ) lefts ( rights ( up ) )"
        floors = run_text(text)
        self.assertEqual(len(floors), 9)
        for quarters in (1, 2, 3, -1):
            self.assertEqual(run_text(text, turned(HOME, quarters)), [turned(floor, quarters) for floor in floors])


class Own(RunTest):
    def test_what_is_handed_in_stays(self):
        for book, floor, items in some_runs(60):
            before = copy.deepcopy(items)
            calls = {name: book.call(name) for name in book.names()}
            answer_of(run, book, floor, items)
            self.assertEqual(items, before)
            self.assertEqual({name: book.call(name) for name in book.names()}, calls)

    def test_a_list_told_is_changed_and_the_program_run_again(self):
        items = read_program(BOOK, "up 2 times ( veer )")
        floors = run(BOOK, HOME, items)
        before = list(floors)
        again = run(BOOK, HOME, items)
        floors[0] = None
        floors.clear()
        self.assertEqual(again, before)
        self.assertEqual(run(BOOK, HOME, items), before)
        empty = run(BOOK, HOME, [])
        empty.append(HOME)
        self.assertEqual(run(BOOK, HOME, []), [])

    def test_changing_the_items_later(self):
        items = read_program(BOOK, "up 2 times ( veer )")
        floors = run(BOOK, HOME, items)
        before = list(floors)
        items[1][2].append(("call", "lost"))
        items.append(("call", "up"))
        self.assertEqual(floors, before)
        self.assertEqual(run(BOOK, HOME, read_program(BOOK, "up 2 times ( veer )")), before)
        self.assertEqual(answer_of(run, BOOK, HOME, items), ("Broken", 2, ("Blind", 0)))


if __name__ == "__main__":
    unittest.main()
