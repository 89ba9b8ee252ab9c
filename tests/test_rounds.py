"""Promises 23 and 24, and 2 and 3 where they speak of them: programs that part, and rounds."""

import copy
import inspect
import random
import unittest

from samples import answer_of, counting_texts, is_refusal, others, some_call, some_floor, some_items
from squarecall.books import Book
from squarecall.dances import danced
from squarecall.errors import Blind, Broken, FloorError, Meet, NoPairs, Out, TooMany
from squarecall.floors import HOME, is_floor
from squarecall.programs import read_program
from squarecall.reach import reached
from squarecall.rounds import parted, round_of
from squarecall.rules import shown_call
from squarecall.runs import run
from squarecall.turnings import form, turned

TEXTS = {
    "still": "> stay",
    "veer": "> turn left",
    "unveer": "> turn right",
    "shy": "inward > turn left ; > stay",
    "hv": "head > turn left ; > stay",
    "up": "> ahead 1",
    "upsafe": "inner 2 > stay ; > ahead 1",
    "down": "> back 1",
    "trade": "at 0 2 partner > right 2 ; > left 2",
    "ring": "lefts > ahead 2 right 4 turn left ; > ahead 4 right 2 turn left",
    "lost": "inner 0 > stay",
    "crash": "> ahead 3",
    "far": "> back 9 back 9 back 9 back 9 back 9 back 9 back 9 back 9",
    "edge": "inner 5 > back 1 ; > stay",
    "edgeveer": "inner 5 > back 1 ; > turn left",
}
BOOK = Book(TEXTS)
HOME_FORM = form(HOME)

# Of 420 calls and of just 400.
LONG = "60 times ( 7 times ( still ) )"
JUST = "40 times ( 10 times ( still ) )"


def items_of(text, book=BOOK):
    return read_program(book, text)


def behind(*names, floor=HOME):
    for name in names:
        floor = danced(floor, BOOK.call(name))
    return floor


def end_by_run(book, floor, items):
    told = answer_of(run, book, floor, items)
    if is_refusal(told):
        return "refused"
    return told[-1] if told else floor


def parted_by_all(book, names, length, one, other):
    """The first form of all on which the ends are unlike."""
    unlike = [row[0] for row in reached(book, HOME, names, length)
              if end_by_run(book, row[0], one) != end_by_run(book, row[0], other)]
    return unlike[0] if unlike else None


def round_by_floors(book, floor, items):
    """The round, by comparing each two of the floors behind 0 to 60 runs."""
    ends = [floor]
    count = 0
    for time in range(60):
        told = answer_of(run, book, ends[-1], items)
        if is_refusal(told):
            # Whatever comes round ahead of the refusal would have come round for ever.
            return ("Broken", count + told[1], told[2]) if told[0] == "Broken" else told
        count += len(told)
        ends.append(([ends[-1]] + told)[-1])
        for ahead in range(time + 1):
            if ends[ahead] == ends[-1]:
                return (ahead, time + 1 - ahead)
    return ("TooMany",)


class Parted(unittest.TestCase):
    def told(self, names, length, one, other, told, book=BOOK):
        for first, second in ((one, other), (other, one)):
            with self.subTest(names=names, length=length, one=first, other=second):
                given = (book, names, length, items_of(first, book), items_of(second, book))
                self.assertEqual(parted(*given), told)
                self.assertEqual(parted_by_all(*given), told)

    def test_the_same_program(self):
        for text in ("", "veer", "up", "lost", "2 times ( heads ( down ) ) trade", LONG, "couples ( veer )"):
            for length in (0, 1, 3):
                self.told(["veer", "up", "trade"], length, text, text, None)

    def test_that_do_the_same_by_other_calls(self):
        names = ["veer", "up", "trade", "hv"]
        self.told(names, 3, "veer veer", "unveer unveer", None)
        self.told(names, 3, "4 times ( veer )", "", None)
        self.told(names, 3, "3 times ( veer )", "unveer", None)
        self.told(names, 3, "heads ( veer ) sides ( veer )", "lefts ( veer ) rights ( veer )", None)
        self.told(names, 3, "heads ( veer )", "hv", None)
        self.told(names, 3, "still", "", None)

    def test_without_items(self):
        self.told(["veer", "up"], 2, "", "", None)
        self.told(["veer", "up"], 2, "", "veer", HOME_FORM)
        self.told(["veer", "up"], 2, "", "lost", HOME_FORM)
        self.told([], 0, "", "", None)

    def test_that_part_at_home(self):
        for one, other in (("veer", "unveer"), ("up", "down"), ("trade", "still"), ("hv", "veer"),
                           ("couples ( veer )", "veer"), ("heads ( down )", "sides ( down )")):
            for length in (0, 1, 2):
                self.told(["veer", "up"], length, one, other, HOME_FORM)
                self.told([], length, one, other, HOME_FORM)

    def test_that_part_first_on_a_later_form(self):
        # All look inward at home; behind one turn nobody does.
        self.told(["veer"], 0, "veer", "shy", None)
        self.told(["trade", "up"], 1, "veer", "shy", None)
        self.told(["veer"], 1, "veer", "shy", form(behind("veer")))
        self.told(["veer", "unveer"], 3, "veer", "shy", form(behind("veer")))
        self.told(["unveer", "veer"], 3, "veer", "shy", form(behind("unveer")))
        # Behind three steps back they are beyond the edge.
        self.told(["down"], 2, "down", "edge", None)
        self.told(["down"], 3, "down", "edge", form(behind("down", "down", "down")))
        self.told(["down"], 12, "down", "edge", form(behind("down", "down", "down")))

    def test_just_one_is_refused(self):
        self.told(["up"], 0, "up", "upsafe", None)
        self.told(["up"], 1, "up", "upsafe", form(behind("up")))
        self.told(["veer", "up"], 1, "up", "upsafe", form(behind("up")))
        for refused in ("lost", "crash", "far far far", "heads ( couples ( still ) )"):
            self.told(["veer"], 1, refused, "still", HOME_FORM)
            self.told(["veer"], 1, refused, "", HOME_FORM)
            self.told(["veer"], 1, f"veer {refused}", "veer", HOME_FORM)

    def test_refused_behind_the_floor_on_which_the_other_ends(self):
        # Up to the refusal both would be on one floor.
        self.told([], 0, "veer lost", "veer", HOME_FORM)
        self.told([], 0, "lost", "", HOME_FORM)

    def test_both_are_refused(self):
        refused = ("lost", "crash", "far far far", "heads ( couples ( still ) )", LONG, "veer lost", "up up", "trade lost")
        for one in refused:
            for other in refused:
                self.told(["trade"], 1, one, other, None)

    def test_ends_that_are_alike_but_turned(self):
        self.assertEqual(behind("ring"), turned(HOME, 1))
        self.told([], 0, "ring", "", HOME_FORM)
        self.told(["veer"], 2, "ring", "still", HOME_FORM)
        self.told([], 0, "ring ring", "ring", HOME_FORM)
        self.told([], 0, "ring ring ring ring", "", None)

    def test_more_than_400_calls(self):
        self.told(["veer"], 1, LONG, "still", HOME_FORM)
        self.told(["veer"], 1, JUST, "still", None)
        self.told(["veer"], 1, f"{JUST} still", "still", HOME_FORM)
        self.told(["veer"], 1, f"{JUST} still", LONG, None)
        self.told(["veer"], 1, f"lost {LONG}", LONG, None)

    def test_names_in_two_orders(self):
        book = Book({**TEXTS, "both": "inward > stay ; head > turn left ; > stay", "sv": "side > turn left ; > stay"})
        # They part wherever a head does not look inward.
        self.told(["hv", "sv"], 1, "both", "still", form(behind("hv")), book)
        self.told(["sv", "hv"], 1, "both", "still", form(behind("hv")), book)
        self.told(["sv"], 3, "both", "still", None, book)
        self.told(["sv", "hv"], 2, "both", "sv", HOME_FORM, book)

    def test_the_form_is_told_not_the_floor(self):
        told = parted(BOOK, [], 0, items_of("veer"), items_of(""))
        self.assertEqual(told, turned(HOME, 3))
        self.assertNotEqual(told, HOME)
        self.assertIs(is_floor(told), True)

    def test_2000_rows_and_more(self):
        names = ["a", "b", "c", "d", "e"]
        book = Book(counting_texts(2))
        self.assertIs(parted(book, names, 9, [], []), None)
        # Refused, though they part at home.
        book = Book(counting_texts(1))
        for other in ([], [("call", "a")]):
            with self.assertRaises(TooMany) as taken:
                parted(book, names, 9, [], other)
            self.assertIsInstance(taken.exception, FloorError)
            self.assertNotIsInstance(taken.exception, others(TooMany))

    def test_many_as_all_forms_tell_them(self):
        source = random.Random(23)
        seen = []
        for place in range(150):
            texts = {name: shown_call(some_call(source)) for name in ("a", "b")}
            book = Book({**TEXTS, **texts})
            # Of calls that are much like one another, so that the programs are often the same on the first forms.
            pool = (["upsafe", "up"], ["veer", "shy"], ["down", "edge"], ["a", "b", "veer", "shy"])[place % 4]
            one, other = ([("call", source.choice(pool))] + some_items(source, ["still"]) for program in range(2))
            if place % 3 == 0:
                one, other = some_items(source, pool), some_items(source, pool)
            names = source.sample(["a", "b", "veer", "up", "down", "hv"], source.randrange(1, 4))
            length = source.randrange(4)
            with self.subTest(one=one, other=other, names=names, length=length):
                told = parted(book, names, length, one, other)
                self.assertEqual(told, parted_by_all(book, names, length, one, other))
                self.assertEqual(parted(book, names, length, other, one), told)
                seen.append("none" if told is None else "home" if told == HOME_FORM else "later")
        for kind in ("none", "home", "later"):
            self.assertGreater(seen.count(kind), 5, kind)

    def test_nothing_handed_in_is_changed(self):
        names = ["veer", "up"]
        one = items_of("2 times ( heads ( veer ) ) couples ( still )")
        other = items_of("inner 3 ( veer )")
        before = copy.deepcopy((names, one, other))
        first = parted(BOOK, names, 2, one, other)
        self.assertEqual((names, one, other), before)
        names.clear()
        one.append(("call", "lost"))
        other.clear()
        self.assertEqual(parted(BOOK, *before[:1], 2, *before[1:]), first)
        self.assertEqual({name: shown_call(BOOK.call(name)) for name in BOOK.names()}, TEXTS)

    def test_arguments_as_they_are_called(self):
        self.assertIs(parted(book=BOOK, names=["veer"], length=1, one=[], other=[]), None)
        self.assertEqual(list(inspect.signature(parted).parameters), ["book", "names", "length", "one", "other"])


class Rounds(unittest.TestCase):
    def told(self, text, told, floor=HOME, book=BOOK):
        with self.subTest(text=text):
            self.assertEqual(answer_of(round_of, book, floor, items_of(text, book)), told)
            self.assertEqual(round_by_floors(book, floor, items_of(text, book)), told)


class RoundTold(Rounds):
    def test_without_items(self):
        self.told("", (0, 1))
        self.told("", (0, 1), behind("veer"))

    def test_from_the_first_floor_on(self):
        self.told("still", (0, 1))
        self.told("trade", (0, 2))
        self.told("veer", (0, 4))
        self.told("unveer", (0, 4))
        self.told("veer veer", (0, 2))
        self.told("3 times ( veer )", (0, 4))
        self.told("4 times ( veer )", (0, 1))
        self.told("trade veer unveer", (0, 2))
        self.told("up down", (0, 1))
        self.told("heads ( veer ) sides ( unveer unveer )", (0, 4))
        self.told("couples ( veer )", (0, 4))
        self.told("inner 2 ( veer )", (0, 1))

    def test_with_floors_ahead(self):
        self.told("edge", (3, 1))
        self.told("edge edge", (2, 1))
        self.told("edgeveer", (3, 4))
        self.told("edgeveer edgeveer", (2, 2))
        self.told("edge", (0, 1), behind("down", "down", "down"))
        self.told("edge", (1, 1), behind("down", "down"))
        self.told("shy", (1, 1))
        self.told("heads ( edgeveer ) sides ( edge )", (3, 4))
        self.told("heads ( shy ) sides ( veer )", (1, 4))
        self.told("upsafe", (1, 1))

    def test_a_floor_that_comes_again_turned_only_is_no_round(self):
        self.told("ring", (0, 4))
        self.told("ring ring", (0, 2))
        self.told("ring ring ring ring", (0, 1))
        self.told("edge", (3, 1), turned(HOME, 1))
        self.told("ring", (0, 4), turned(HOME, 3))

    def test_the_floor_behind_whole_runs_alone(self):
        # Home comes again amid each run, but not at its end.
        self.told("up down veer", (0, 4))
        self.told("veer unveer trade", (0, 2))

    def test_just_behind_60_runs(self):
        for count, told in ((57, (57, 1)), (58, (58, 1)), (59, (59, 1)), (60, ("TooMany",)), (61, ("TooMany",))):
            # So many steps from 3 to beyond the edge.
            book = Book({"go": f"inner {count + 2} > back 1 ; > stay"})
            self.told("go", told, book=book)

    def test_a_round_of_60_and_of_61(self):
        for edge, last, told in ((60, 4, (0, 59)), (61, 5, (0, 60)), (62, 6, ("TooMany",))):
            book = Book({"go": f"inner {edge} > back 1 ; > {'ahead 9 ' * 6}ahead {last}"})
            self.told("go", told, book=book)

    def test_unlike_rounds_of_heads_and_sides(self):
        # Heads come round in 4 runs, sides in 15.
        book = Book({"go": "head > turn left ; inner 16 > back 1 ; > ahead 9 ahead 5"})
        self.told("go", (0, 60), book=book)
        # The sides come round in 10 runs, but not to home.
        book = Book({"go": "head > turn left ; inner 12 > back 1 ; > ahead 9"})
        self.told("go", (1, 20), book=book)

    def test_ahead_and_round_together_of_60_and_of_61(self):
        for edge, told in ((57, (55, 4)), (58, (56, 4)), (59, ("TooMany",)), (60, ("TooMany",))):
            book = Book({"go": f"inner {edge} > back 1 ; > turn left"})
            self.told("go", told, book=book)

    def test_from_floors_turned_about(self):
        for text in ("edge", "edgeveer", "ring", "trade", "up", "still lost", "heads ( shy ) sides ( veer )"):
            first = answer_of(round_of, BOOK, HOME, items_of(text))
            for quarters in (1, 2, 3):
                self.told(text, first, turned(HOME, quarters))

    def test_many_as_the_floors_tell_them(self):
        source = random.Random(24)
        seen = []
        for place in range(200):
            book = Book({**TEXTS, "a": shown_call(some_call(source)), "b": shown_call(some_call(source))})
            floor = HOME if place % 2 else some_floor(source)
            items = some_items(source, ["a", "b", "veer"] if place % 3 else ["shy", "edge", "edgeveer", "ring", "trade"])
            with self.subTest(floor=floor, items=items):
                told = answer_of(round_of, book, floor, items)
                self.assertEqual(told, round_by_floors(book, floor, items))
                seen.append(told[0] if is_refusal(told) else "ahead" if told[0] else "round")
        for kind in ("Broken", "ahead", "round"):
            self.assertGreater(seen.count(kind), 9, kind)

    def test_kinds_and_arguments(self):
        told = round_of(book=BOOK, floor=HOME, items=items_of("edgeveer"))
        self.assertIs(type(told), tuple)
        self.assertEqual([type(number) for number in told], [int, int])


class RoundRefused(Rounds):
    def test_broken_in_the_first_run(self):
        self.told("lost", ("Broken", 0, ("Blind", 0)))
        self.told("still veer lost", ("Broken", 2, ("Blind", 0)))
        self.told("sides ( still lost )", ("Broken", 1, ("Blind", 2)))
        self.told("crash", ("Broken", 0, ("Meet", 0, 5)))
        self.told("far far far", ("Broken", 2, ("Out", 0)))
        self.told("trade heads ( couples ( still ) )", ("Broken", 1, ("NoPairs",)))

    def test_broken_in_a_later_run(self):
        self.told("up", ("Broken", 1, ("Meet", 0, 7)))
        self.told("still up", ("Broken", 3, ("Meet", 0, 7)))
        self.told("still up still", ("Broken", 4, ("Meet", 0, 7)))
        self.told("far", ("Broken", 2, ("Out", 0)))
        self.told("still rights ( far ) still", ("Broken", 7, ("Out", 1)))
        self.told("3 times ( still ) heads ( sides ( still ) ) far", ("Broken", 14, ("Out", 0)))
        book = Book({"once": "inward > turn left", "still": "> stay"})
        self.told("once still", ("Broken", 2, ("Blind", 0)), book=book)
        self.told("still once", ("Broken", 3, ("Blind", 0)), book=book)
        book = Book({"part": "head and lefts > back 1 ; > stay", "still": "> stay"})
        self.told("couples ( still ) part", ("Broken", 2, ("NoPairs",)), book=book)

    def test_at_counts_beyond_400(self):
        self.told("19 times ( 20 times ( still ) ) far", ("Broken", 381 * 2 + 380, ("Out", 0)))
        self.told("39 times ( 10 times ( still ) ) 9 times ( still ) far", ("Broken", 400 * 2 + 399, ("Out", 0)))

    def test_why_is_the_refusal_itself(self):
        for text, kind in (("still up", Meet), ("far", Out), ("lost", Blind), ("heads ( couples ( up ) )", NoPairs)):
            with self.assertRaises(Broken) as taken:
                round_of(BOOK, HOME, items_of(text))
            self.assertIsInstance(taken.exception, FloorError)
            self.assertNotIsInstance(taken.exception, others(Broken))
            self.assertIs(type(taken.exception.why), kind)

    def test_broken_in_the_last_runs(self):
        # From 3 on, in steps of so many, to the bound at 200.
        for step, steps in ((9, 22), (4, 50)):
            book = Book({"go": f"> back {step}"})
            self.told("go", ("Broken", steps - 1, ("Out", 0)), book=book)
        # With 59 steps to the bound the 60th run is refused, with 60 there is no 61st run.
        self.told("down", ("Broken", 59, ("Out", 0)), tuple((dancer, -141, 0) for dancer in range(8)))
        self.told("down", ("TooMany",), tuple((dancer, -140, 0) for dancer in range(8)))

    def test_no_floor_came_again(self):
        self.told("down", ("TooMany",))
        with self.assertRaises(TooMany) as taken:
            round_of(BOOK, HOME, items_of("down"))
        self.assertIsInstance(taken.exception, FloorError)
        self.assertNotIsInstance(taken.exception, others(TooMany))

    def test_a_run_of_more_than_400_calls(self):
        self.told(LONG, ("TooMany",))
        self.told(JUST, (0, 1))
        self.told(f"{JUST} still", ("TooMany",))
        self.told(f"lost {LONG}", ("Broken", 0, ("Blind", 0)))
        self.told(f"{JUST} lost", ("TooMany",))
        self.told("40 times ( 9 times ( still ) ) 39 times ( still ) lost", ("Broken", 399, ("Blind", 0)))

    def test_nothing_handed_in_is_changed(self):
        for text in ("2 times ( heads ( veer ) ) couples ( still )", "still up", "down", LONG):
            items = items_of(text)
            before = copy.deepcopy(items)
            first = answer_of(round_of, BOOK, HOME, items)
            self.assertEqual(items, before)
            items.clear()
            self.assertEqual(answer_of(round_of, BOOK, HOME, before), first)
        self.assertEqual({name: shown_call(BOOK.call(name)) for name in BOOK.names()}, TEXTS)


if __name__ == "__main__":
    unittest.main()
