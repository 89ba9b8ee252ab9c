"""Promises 25 and 26, and 2 where it speaks of them: the desk, its rows and its refusals."""

import copy
import random
import unittest

from samples import answer_of, counting_texts, is_refusal, others, shown_refusal, some_call, some_items
from squarecall.books import Book, is_name
from squarecall.desk import Desk
from squarecall.errors import Broken, FloorError, NoCall, NoName, NoPairs, NoProgram, NoRow, TooMany
from squarecall.floors import HOME
from squarecall.halves import is_even
from squarecall.pairs import pairs_on
from squarecall.programs import read_program, shown_program
from squarecall.reach import way_home
from squarecall.rounds import round_of
from squarecall.rules import read_call, shown_call
from squarecall.runs import run
from squarecall.turnings import form

HOME_TEXT = "-1,-3,0 1,-3,0 3,-1,1 3,1,1 1,3,2 -1,3,2 -3,1,3 -3,-1,3"
UP_TEXT = "-1,-2,0 1,-2,0 2,-1,1 2,1,1 1,2,2 -1,2,2 -2,1,3 -2,-1,3"

TEXTS = {
    "veer": "> turn left",
    "up": "> ahead 1",
    "down": "> back 1",
    "trade": "at 0 2 partner > right 2 ; > left 2",
    "ring": "lefts > ahead 2 right 4 turn left ; > ahead 4 right 2 turn left",
    "lost": "inner 0 > stay",
    "still": "> stay",
}

# Words of one or two letters, none of them kept by programs.
SIXTY = [f"{one}{other}" for one in "abcdef" for other in "abcdefghij"]


class TextOfItsOwn(str):
    pass


def desk_with(texts, *rows):
    """A desk with these calls, told these rows."""
    desk = Desk()
    for name, text in texts.items():
        desk.say(f"call {name} {text}")
    for row in rows:
        desk.say(row)
    return desk


def state(desk):
    """All that a desk has: its calls, its floor, and the floors that `back` would bring."""
    other = copy.deepcopy(desk)
    calls = other.say("calls")
    floors = [other.say("floor")]
    while answer_of(other.say, "back") == "ok":
        floors.append(other.say("floor"))
    danced = []
    for name in calls.split():
        danced.append(answer_of(other.say, f"run {name}"))
        danced.append(other.say("floor"))
        other.say("home")
    return calls, floors, danced


class DeskTest(unittest.TestCase):
    def told(self, desk, row, answer):
        with self.subTest(row=row):
            told = desk.say(row)
            self.assertEqual(told, answer)
            self.assertIs(type(told), str)

    def refused(self, desk, row, kind):
        with self.subTest(row=row):
            before = state(desk)
            with self.assertRaises(kind) as taken:
                desk.say(row)
            self.assertIsInstance(taken.exception, FloorError)
            self.assertNotIsInstance(taken.exception, others(kind))
            self.assertEqual(state(desk), before)
            return taken.exception


class AtFirst(DeskTest):
    def test_each_row(self):
        for row, answer in (("calls", ""), ("floor", HOME_TEXT), ("even", "yes"), ("alike", "yes"), ("home", "ok"),
                            ("pairs", "0,1 2,3 4,5 6,7"), ("run ", "0"), ("round ", "0 1"), ("way 0", ""),
                            ("way 12", ""), ("call up > ahead 1", "ok"), ("where 0", "-1,-3,0")):
            self.told(Desk(), row, answer)
        self.refused(Desk(), "back", NoName)
        self.refused(Desk(), "run up", NoProgram)

    def test_row_is_so_called(self):
        self.assertEqual(Desk().say(row="even"), "yes")

    def test_a_text_of_a_kind_of_its_own(self):
        desk = desk_with({"up": "> ahead 1"})
        self.told(desk, TextOfItsOwn("even"), "yes")
        self.told(desk, TextOfItsOwn("run up"), "1")


class Calls(DeskTest):
    def test_a_new_name(self):
        desk = Desk()
        for name, text in TEXTS.items():
            self.told(desk, f"call {name} {text}", "ok")
        self.told(desk, "calls", "down lost ring still trade up veer")
        self.told(desk, "run up", "1")
        self.told(desk, "floor", UP_TEXT)

    def test_none_one_and_several_sorted(self):
        desk = Desk()
        names = ["b", "zz", "a", "ab", "aaa", "z", "abcdefgh"]
        for count in range(len(names) + 1):
            self.told(desk, "calls", " ".join(sorted(names[:count])))
            if count < len(names):
                desk.say(f"call {names[count]} > stay")

    def test_an_elder_name(self):
        desk = desk_with({"go": "> ahead 1", "turn": "> turn left"}, "run turn")
        self.told(desk, "call go > turn right", "ok")
        self.told(desk, "calls", "go turn")
        self.told(desk, "way 12", "go")
        self.told(desk, "round go", "0 4")
        self.told(desk, "run go", "1")
        self.told(desk, "floor", HOME_TEXT)
        self.told(desk, "call go > stay", "ok")
        self.told(desk, "round go", "0 1")
        self.told(desk, "run turn", "1")
        self.told(desk, "way 12", "turn turn turn")

    def test_an_elder_one_by_the_same_text(self):
        desk = desk_with({"up": "> ahead 1", "down": "> back 1"})
        self.told(desk, "call up > ahead 1", "ok")
        self.told(desk, "calls", "down up")
        self.told(desk, "run up", "1")
        self.told(desk, "floor", UP_TEXT)

    def test_the_floor_and_what_back_brings_stay(self):
        desk = desk_with({"up": "> ahead 1"}, "run up")
        self.told(desk, "call up > stay", "ok")
        self.told(desk, "floor", UP_TEXT)
        self.told(desk, "back", "ok")
        self.told(desk, "floor", HOME_TEXT)
        self.refused(desk, "back", NoName)
        self.told(desk, "calls", "up")
        self.told(desk, "run up", "1")
        self.told(desk, "floor", HOME_TEXT)

    def test_texts_of_several_rules(self):
        desk = Desk()
        self.told(desk, "call x head and not at 2 0 any > ahead 1 turn left ; > stay", "ok")
        self.told(desk, "run x", "1")
        self.told(desk, "where 0", "-1,-2,1")
        self.told(desk, "where 2", "3,-1,1")

    def test_a_text_that_is_none(self):
        desk = desk_with(TEXTS, "run up")
        for text in ("", " ", "stay", ">", "> ", "> stay ", " > stay", ">  stay", "> stay\n", "> ahead 0", "> ahead 10",
                     "> ahead 01", "> stay ;", "> stay ; ", "> STAY", "head > ", "at 0 0 any > stay", "up", "ok"):
            self.refused(desk, f"call new {text}", NoCall)
            self.refused(desk, f"call up {text}", NoCall)

    def test_a_name_that_is_none(self):
        desk = desk_with(TEXTS, "run up")
        for name in ("Up", "up1", "1", "abcdefghi", "times", "heads", "sides", "lefts", "rights", "inner", "couples", "u-p",
                     "_", ">", ";", "\tup", "up\n", "\n", "u\tp", "\u00e9", "\u0430", "\u00a0", "(", "ab,cd"):
            self.refused(desk, f"call {name} > stay", NoName)
            # NoName comes first.
            for text in ("", "stay", " > stay"):
                self.refused(desk, f"call {name} {text}", NoName)

    def test_names_that_rows_and_calls_have(self):
        names = ["call", "calls", "run", "home", "floor", "even", "alike", "where", "way", "round", "pairs", "back", "none",
                 "ok", "yes", "no", "left", "right", "stay"]
        desk = desk_with(dict.fromkeys(names, "> turn left"))
        self.told(desk, "calls", " ".join(sorted(names)))
        self.told(desk, "run run home back", "3")
        self.told(desk, "where 0", "-1,-3,3")

    def test_sixty_names(self):
        desk = desk_with(dict.fromkeys(SIXTY[:59], "> stay"))
        self.told(desk, f"call {SIXTY[59]} > turn left", "ok")
        self.told(desk, "calls", " ".join(SIXTY))
        self.refused(desk, "call zz > stay", TooMany)
        self.refused(desk, "call z > ahead 1 ; > stay", TooMany)
        # What is no name or no call is told ahead of that.
        self.refused(desk, "call zz stay", NoCall)
        self.refused(desk, "call zz ", NoCall)
        self.refused(desk, "call Zz > stay", NoName)
        self.refused(desk, "call inner stay", NoName)
        # An elder name is no 61st.
        for name in (SIXTY[0], SIXTY[30], SIXTY[59]):
            self.told(desk, f"call {name} > ahead 1", "ok")
            self.refused(desk, f"call {name} stay", NoCall)
        self.told(desk, "calls", " ".join(SIXTY))
        self.told(desk, f"run {SIXTY[30]}", "1")
        self.told(desk, "floor", UP_TEXT)
        self.refused(desk, "call zz > stay", TooMany)


class Runs(DeskTest):
    def test_without_items(self):
        desk = desk_with(TEXTS)
        self.told(desk, "run ", "0")
        self.told(desk, "floor", HOME_TEXT)
        desk.say("run up")
        self.told(desk, "run ", "0")
        self.told(desk, "floor", UP_TEXT)

    def test_the_number_of_calls_and_the_floor_behind(self):
        desk = desk_with(TEXTS)
        for text, count in (("up", 1), ("veer up", 2), ("3 times ( veer )", 3), ("2 times ( trade heads ( still ) )", 4),
                            ("heads ( sides ( lost ) )", 1), ("couples ( veer veer )", 2), ("up down", 2),
                            ("40 times ( 10 times ( still ) )", 400)):
            desk.say("home")
            self.told(desk, f"run {text}", str(count))
            book = Book(TEXTS)
            floor = run(book, HOME, read_program(book, text))[-1]
            self.told(desk, "floor", " ".join(f"{x},{y},{facing}" for x, y, facing in floor))

    def test_from_the_desks_floor_on(self):
        desk = desk_with(TEXTS, "run down")
        self.told(desk, "where 0", "-1,-4,0")
        self.told(desk, "run down veer", "2")
        self.told(desk, "where 0", "-1,-5,1")
        self.told(desk, "run down", "1")
        self.told(desk, "where 0", "0,-5,1")

    def test_what_is_no_program(self):
        desk = desk_with(TEXTS, "run up")
        for text in (" ", " up", "up ", "up  up", "ups", "UP", "up\n", "\tup", "heads", "heads ( )", "2 times up", "( up )",
                     "0 times ( up )", "61 times ( up )", "02 times ( up )", "up)", "inner 201 ( up )", ">"):
            self.refused(desk, f"run {text}", NoProgram)
            self.refused(desk, f"round {text}", NoProgram)

    def test_broken(self):
        desk = desk_with(TEXTS, "run up")
        for row, at, why in (("run lost", 0, ("Blind", 0)), ("run veer lost", 1, ("Blind", 0)), ("run up", 0, ("Meet", 0, 7)),
                             ("run still still up", 2, ("Meet", 0, 7)), ("run heads ( couples ( up ) )", 0, ("NoPairs",)),
                             ("round still up", 1, ("Meet", 0, 7)), ("round sides ( lost )", 0, ("Blind", 2))):
            refusal = self.refused(desk, row, Broken)
            self.assertEqual((refusal.at, shown_refusal(refusal.why)), (at, why))
        desk.say("home")
        refusal = self.refused(desk, "round still up", Broken)
        self.assertEqual((refusal.at, shown_refusal(refusal.why)), (3, ("Meet", 0, 7)))

    def test_too_many(self):
        desk = desk_with(TEXTS, "run veer")
        for row in ("run 60 times ( 7 times ( still ) )", "run 40 times ( 10 times ( still ) ) still",
                    "round 60 times ( 7 times ( still ) )", "round heads ( down )"):
            self.refused(desk, row, TooMany)

    def test_home(self):
        desk = desk_with(TEXTS, "run up veer")
        self.told(desk, "home", "ok")
        self.told(desk, "floor", HOME_TEXT)
        self.told(desk, "home", "ok")
        self.told(desk, "floor", HOME_TEXT)
        self.told(desk, "calls", "down lost ring still trade up veer")
        # Home itself, not a floor alike.
        desk.say("run ring")
        self.told(desk, "home", "ok")
        self.told(desk, "floor", HOME_TEXT)


class Back(DeskTest):
    def test_behind_run(self):
        desk = desk_with(TEXTS, "run up")
        self.told(desk, "back", "ok")
        self.told(desk, "floor", HOME_TEXT)
        self.refused(desk, "back", NoName)
        self.refused(desk, "back", NoName)

    def test_behind_a_run_of_several_calls(self):
        desk = desk_with(TEXTS, "run up", "run veer veer trade")
        self.told(desk, "back", "ok")
        self.told(desk, "floor", UP_TEXT)

    def test_behind_home(self):
        desk = desk_with(TEXTS, "run up", "home")
        self.told(desk, "back", "ok")
        self.told(desk, "floor", UP_TEXT)
        self.told(desk, "back", "ok")
        self.told(desk, "floor", HOME_TEXT)
        self.refused(desk, "back", NoName)

    def test_behind_home_at_home(self):
        desk = desk_with({}, "home", "home")
        self.told(desk, "back", "ok")
        self.told(desk, "back", "ok")
        self.refused(desk, "back", NoName)

    def test_several_times_in_a_row(self):
        desk = desk_with({"down": "> back 1"})
        floors = []
        for time in range(20):
            floors.append(desk.say("floor"))
            desk.say("run down" if time % 7 != 6 else "home")
        for floor in reversed(floors):
            self.told(desk, "back", "ok")
            self.told(desk, "floor", floor)
        self.refused(desk, "back", NoName)

    def test_run_again_behind_back(self):
        desk = desk_with(TEXTS, "run up", "run veer", "back", "run trade")
        self.told(desk, "back", "ok")
        self.told(desk, "floor", UP_TEXT)
        self.told(desk, "back", "ok")
        self.told(desk, "floor", HOME_TEXT)
        self.refused(desk, "back", NoName)

    def test_behind_a_refused_run(self):
        desk = desk_with(TEXTS, "run up")
        for row in ("run lost", "run veer veer lost", "run ups", "run 60 times ( 7 times ( still ) )"):
            answer_of(desk.say, row)
        self.told(desk, "back", "ok")
        self.told(desk, "floor", HOME_TEXT)
        self.refused(desk, "back", NoName)

    def test_a_run_without_calls_is_taken_back(self):
        desk = desk_with(TEXTS, "run up", "run ", "run ")
        for floor in (UP_TEXT, UP_TEXT, HOME_TEXT):
            self.told(desk, "back", "ok")
            self.told(desk, "floor", floor)
        self.refused(desk, "back", NoName)

    def test_a_run_that_leaves_the_floor_is_taken_back(self):
        desk = desk_with(TEXTS, "run veer", "run still", "run heads ( sides ( up ) )")
        veered = desk.say("floor")
        for floor in (veered, veered, HOME_TEXT):
            self.told(desk, "back", "ok")
            self.told(desk, "floor", floor)

    def test_rows_that_leave_the_floor_are_not_taken_back(self):
        desk = desk_with(TEXTS, "run up")
        for row in ("calls", "floor", "even", "alike", "where 3", "pairs", "way 3", "round veer", "call more > stay"):
            desk.say(row)
        self.told(desk, "back", "ok")
        self.told(desk, "floor", HOME_TEXT)
        self.refused(desk, "back", NoName)
        self.told(desk, "calls", "down lost more ring still trade up veer")


class Asked(DeskTest):
    def test_floor(self):
        desk = desk_with({"go": "lefts > back 9 back 9 turn right ; > left 5"}, "run go")
        self.told(desk, "floor", "-1,-21,3 -4,-3,0 21,-1,0 3,-4,1 1,21,1 4,3,2 -21,1,2 -3,4,3")

    def test_where(self):
        for desk, floor in ((Desk(), HOME_TEXT), (desk_with(TEXTS, "run up"), UP_TEXT)):
            for dancer, stand in enumerate(floor.split()):
                self.told(desk, f"where {dancer}", stand)

    def test_even(self):
        desk = desk_with({**TEXTS, "odd": "lefts > back 1 ; > stay"})
        for text in ("up", "veer", "heads ( down )", "odd", "lefts ( down )", "couples ( veer )", "inner 4 ( down )"):
            desk.say("home")
            desk.say(f"run {text}")
            self.told(desk, "even", "yes")

    def test_not_even(self):
        # No row leads from an even floor to another one, so the floor is given by hand.
        desk = Desk()
        desk.floor = ((-1, -3, 1),) + HOME[1:]
        self.told(desk, "even", "no")

    def test_alike(self):
        desk = desk_with(TEXTS)
        for row, answer in (("run ring", "yes"), ("run ring", "yes"), ("run ring", "yes"), ("run veer", "no"),
                            ("run 3 times ( veer )", "yes"), ("run ring", "yes"), ("run trade", "no"), ("run trade", "yes"),
                            ("run down", "no"), ("home", "yes")):
            desk.say(row)
            self.told(desk, "alike", answer)

    def test_pairs(self):
        desk = desk_with(TEXTS)
        self.told(desk, "pairs", "0,1 2,3 4,5 6,7")
        desk.say("run veer veer")
        self.told(desk, "pairs", "1,0 3,2 5,4 7,6")
        desk.say("run veer")
        self.refused(desk, "pairs", NoPairs)
        desk.say("home")
        desk.say("run trade")
        self.told(desk, "pairs", "1,0 3,2 5,4 7,6")


class Ways(DeskTest):
    def test_each_length(self):
        desk = desk_with({"down": "> back 1"}, "run 12 times ( down )", "call down > ahead 1")
        for length in range(12):
            self.told(desk, f"way {length}", "none")
        self.told(desk, "way 12", " ".join(["down"] * 12))
        for count in range(1, 13):
            desk.say("run down")
            for length in range(13):
                self.told(desk, f"way {length}", " ".join(["down"] * (12 - count)) if length >= 12 - count else "none")

    def test_at_home_and_at_home_turned(self):
        desk = desk_with(TEXTS)
        for time in range(4):
            for length in range(13):
                self.told(desk, f"way {length}", "")
            desk.say("run ring")

    def test_without_calls(self):
        self.told(Desk(), "way 3", "")
        desk = Desk()
        desk.floor = ((-1, -4, 0),) + HOME[1:]
        self.told(desk, "way 0", "none")
        self.told(desk, "way 12", "none")

    def test_names_in_the_order_of_texts(self):
        rows = ["call zz > turn left", "call b > turn left", "call ab > turn left", "call aa > stay"]
        for order in (rows, rows[::-1]):
            desk = desk_with({}, *order, "run zz zz")
            self.told(desk, "way 12", "ab ab")
            desk.say("call ab > stay")
            self.told(desk, "way 12", "b b")

    def test_of_the_calls_of_the_book_by_now(self):
        desk = desk_with({"veer": "> turn left"}, "run veer")
        self.told(desk, "way 2", "none")
        self.told(desk, "way 3", "veer veer veer")
        desk.say("call back > turn right")
        self.told(desk, "way 2", "back")
        desk.say("call about > turn about")
        self.told(desk, "way 12", "back")
        desk.say("call back > stay")
        self.told(desk, "way 2", "about veer")

    def test_the_floor_stays(self):
        desk = desk_with({"veer": "> turn left"}, "run veer")
        floor = desk.say("floor")
        desk.say("way 12")
        self.told(desk, "floor", floor)
        self.told(desk, "back", "ok")
        self.refused(desk, "back", NoName)

    def test_2000_as_the_most(self):
        for capped, answer in ((2, "none"), (1, None)):
            # All a step back first, so that no call leads home.
            desk = desk_with({"a": "> back 1"}, "run a")
            for name, text in counting_texts(capped, 11).items():
                desk.say(f"call {name} {text}")
            if answer is None:
                self.refused(desk, "way 9", TooMany)
            else:
                self.told(desk, "way 9", answer)


class Rounds(DeskTest):
    def test_its_two_numbers(self):
        desk = desk_with({**TEXTS, "edge": "inner 5 > back 1 ; > turn left"})
        for text, answer in (("", "0 1"), ("still", "0 1"), ("veer", "0 4"), ("trade", "0 2"), ("ring", "0 4"),
                             ("edge", "3 4"), ("2 times ( edge )", "2 2"), ("heads ( edge ) sides ( trade )", "3 4")):
            self.told(desk, f"round {text}", answer)

    def test_from_the_desks_floor_which_stays(self):
        desk = desk_with({"edge": "inner 5 > back 1 ; > turn left"})
        for answer in ("3 4", "2 4", "1 4", "0 4", "0 4"):
            floor = desk.say("floor")
            self.told(desk, "round edge", answer)
            self.told(desk, "floor", floor)
            desk.say("run edge")
        for time in range(5):
            self.told(desk, "back", "ok")
        self.refused(desk, "back", NoName)

    def test_of_60_runs_and_more(self):
        desk = desk_with({"go": "inner 61 > back 1 ; > stay"})
        self.told(desk, "round go", "59 1")
        desk.say("call go inner 62 > back 1 ; > stay")
        self.refused(desk, "round go", TooMany)


LONE = ("calls", "home", "floor", "even", "alike", "pairs", "back")
WITH_MORE = ("call", "run", "where", "way", "round")


class NoRows(DeskTest):
    def setUp(self):
        self.desk = desk_with(TEXTS, "run up", "home", "run veer veer")

    def no_rows(self, rows):
        for row in rows:
            self.refused(self.desk, row, NoRow)

    def test_without_signs_and_white_signs_alone(self):
        self.no_rows(["", " ", "  ", "\n", "\t", "\r\n", "\u00a0", "\x00", "\u2003"])

    def test_words_too_few(self):
        self.no_rows(WITH_MORE)
        self.no_rows(["call up", "call ", "call  ", "where ", "way "])

    def test_words_too_many(self):
        self.no_rows([f"{word} {more}" for word in LONE for more in ("", "0", "home", "up", word)])
        self.no_rows(["where 0 1", "where 0 ", "way 3 3", "way 3 ", "way 3 up", "where 1 up", "calls call", "back back"])

    def test_unknown_words(self):
        self.no_rows(["x", "up", "veer up", "runs up", "ru up", "cal up > stay", "calling", "backs", "homes", "wheres 1",
                      "ways 3", "rounds up", "pair", "floors", "ok", "yes", "no", "none", "quit", "help", "?", "# home",
                      "callup > stay", "runup", "where0", "way3", "back home", "all", "inner 3 ( up )", "> stay"])

    def test_great_letters(self):
        self.no_rows([word.upper() for word in LONE] + [word.title() for word in LONE])
        self.no_rows(["RUN up", "Run up", "CALL up > stay", "Call up > stay", "Where 1", "WHERE 1", "Way 1", "WAY 1",
                      "Round up", "ROUND up", "rUN up"])

    def test_blanks_ahead_behind_and_two_between(self):
        for word in LONE:
            self.no_rows([f" {word}", f"{word} ", f" {word} ", f"  {word}", f"{word}  "])
        for row in ("run up", "call up > stay", "where 1", "way 1", "round up", "run ", "round "):
            self.no_rows([f" {row}", f"  {row}"])
        for row in ("where 1", "way 1"):
            self.no_rows([f"{row} ", f"{row}  ", row.replace(" ", "  ")])
        self.no_rows(["call  up > stay", "call  ", "call   > stay"])

    def test_blanks_that_belong_to_what_follows(self):
        self.refused(self.desk, "run  up", NoProgram)
        self.refused(self.desk, "run up ", NoProgram)
        self.refused(self.desk, "round  up", NoProgram)
        self.refused(self.desk, "call up  > stay", NoCall)
        self.refused(self.desk, "call up > stay ", NoCall)
        self.refused(self.desk, "call up ", NoCall)

    def test_line_ends_and_other_white_signs(self):
        for sign in ("\n", "\t", "\r", "\r\n", "\v", "\f", "\u00a0", "\u2003", "\u2028", "\u3000", "\x1c", "\x85", "\ufeff"):
            for word in LONE:
                self.no_rows([f"{word}{sign}", f"{sign}{word}"])
            for row in ("run up", "call up > stay", "where 1", "way 1", "round up"):
                self.no_rows([f"{sign}{row}", row.replace(" ", sign), row.replace(" ", f"{sign} ", 1)])
            for row in ("where", "way"):
                self.no_rows([f"{row} 1{sign}", f"{row} {sign}1", f"{row} {sign}", f"{row} 1{sign}2"])

    def test_numbers_beyond_their_bounds(self):
        self.no_rows([f"where {word}" for word in ("8", "9", "-1", "-7", "10", "70", "100", "1000000000000000000000")])
        self.no_rows([f"way {word}" for word in ("13", "14", "-1", "-12", "20", "120", "1000000000000000000000")])

    def test_numbers_written_otherwise(self):
        for row in ("where", "way"):
            self.no_rows([f"{row} {word}" for word in (
                "00", "01", "007", "+0", "+1", "-0", "--1", "1.0", "1,0", "1e0", "0x1", "0b1", "1_0", "one", "x", "I", "-", "+",
                "\u0661", "\u00b2", "\uff11", "\u0967", "1\u0661", "\u2460", "N", "None", "True", "(1)", "'1'", "1;")])

    def test_what_is_no_text(self):
        self.no_rows([None, True, False, 0, 1, 7, -1, 10 ** 30, 1.5, b"", b"home", b"run up", bytearray(b"home"), (), [],
                      ["home"], ("home",), {}, {"home": 1}, {"home"}, object(), Desk, Desk(), str, self.desk, 1j, range(3)])

    def test_behind_the_refusals_all_goes_on(self):
        for row in ("homes", "", None, "where 8", "way 13", "calls up"):
            self.refused(self.desk, row, NoRow)
        self.told(self.desk, "calls", "down lost ring still trade up veer")
        for floor in (HOME_TEXT, UP_TEXT, HOME_TEXT):
            self.told(self.desk, "back", "ok")
            self.told(self.desk, "floor", floor)
        self.refused(self.desk, "back", NoName)


class TwoDesks(DeskTest):
    def test_know_nothing_of_one_another(self):
        one, other = Desk(), Desk()
        one.say("call up > ahead 1")
        one.say("run up")
        self.told(other, "calls", "")
        self.told(other, "floor", HOME_TEXT)
        self.refused(other, "run up", NoProgram)
        self.refused(other, "back", NoName)
        other.say("call up > turn left")
        other.say("run up")
        self.told(one, "floor", UP_TEXT)
        self.told(other, "where 0", "-1,-3,1")
        self.told(one, "back", "ok")
        self.refused(one, "back", NoName)
        self.told(other, "where 0", "-1,-3,1")
        one.say("run up")
        self.told(one, "floor", UP_TEXT)
        self.told(Desk(), "calls", "")
        self.told(Desk(), "floor", HOME_TEXT)

    def test_made_behind_a_full_one(self):
        desk_with(dict.fromkeys(SIXTY, "> stay"), "home")
        self.told(Desk(), "call zz > stay", "ok")
        self.refused(Desk(), "back", NoName)


class ModelDesk:
    """A desk told by the parts of the program that it is made of."""

    def __init__(self):
        self.texts = {}
        self.pile = [HOME]

    def answer(self, row):
        word, more = (row.split(" ", 1) + [None])[:2]
        book = Book(self.texts)
        floor = self.pile[-1]
        if word == "call":
            name, text = more.split(" ", 1)
            if not is_name(name):
                return ("NoName",)
            told = answer_of(read_call, text)
            if is_refusal(told):
                return told
            if len({*self.texts, name}) > 60:
                return ("TooMany",)
            self.texts[name] = text
            return "ok"
        if word == "back":
            if len(self.pile) == 1:
                return ("NoName",)
            self.pile.pop()
            return "ok"
        if word == "home":
            self.pile.append(HOME)
            return "ok"
        if word == "run":
            items = answer_of(read_program, book, more)
            told = items if is_refusal(items) else answer_of(run, book, floor, items)
            if is_refusal(told):
                return told
            self.pile.append(([floor] + told)[-1])
            return str(len(told))
        return self.asked(word, more, book, floor)

    def asked(self, word, more, book, floor):
        if word == "round":
            items = answer_of(read_program, book, more)
            told = items if is_refusal(items) else answer_of(round_of, book, floor, items)
            return told if is_refusal(told) else f"{told[0]} {told[1]}"
        if word == "way":
            told = answer_of(way_home, book, floor, sorted(self.texts), int(more), 2000)
            return "none" if told is None else told if is_refusal(told) else " ".join(told)
        if word == "pairs":
            told = answer_of(pairs_on, floor)
            return told if is_refusal(told) else " ".join(f"{left},{right}" for left, right in told)
        stands = [f"{x},{y},{facing}" for x, y, facing in floor]
        return {
            "calls": " ".join(sorted(self.texts)), "floor": " ".join(stands), "even": "yes" if is_even(floor) else "no",
            "alike": "yes" if form(floor) == form(HOME) else "no", "where": stands[int(more)] if word == "where" else None,
        }[word]


def some_row(source, names):
    kind = source.randrange(16)
    name = source.choice(names)
    if kind < 3:
        return f"call {name} {shown_call(some_call(source))}"
    if kind == 3:
        return f"call {name} {source.choice(sorted(TEXTS.values()))}"
    if kind == 4:
        return f"call {source.choice(['Up', 'inner', name])} {source.choice(['', 'stay', '> ahead 0'])}"
    if kind < 8:
        return f"run {source.choice(['', name, name, shown_program(some_items(source, names))])}"
    if kind == 8:
        return f"round {source.choice(['', name, shown_program(some_items(source, names))])}"
    if kind == 9:
        return f"way {source.randrange(4)}"
    if kind == 10:
        return f"where {source.randrange(8)}"
    return source.choice(LONE)


class Talks(DeskTest):
    def test_many_rows_as_the_model_answers_them(self):
        source = random.Random(25)
        seen = []
        for talk in range(12):
            desk, model = Desk(), ModelDesk()
            names = ["a", "b", "c", "up", "veer"]
            for time in range(100):
                row = some_row(source, names)
                with self.subTest(row=row):
                    told = answer_of(desk.say, row)
                    self.assertEqual(told, model.answer(row))
                    self.assertEqual(desk.say("floor"), model.answer("floor"))
                    self.assertEqual(desk.say("calls"), model.answer("calls"))
                    seen.append(told[0] if is_refusal(told) else row.split(" ")[0])
        # Else the samples would leave a sort of answer untried.
        for kind in (*LONE, *WITH_MORE, "NoName", "NoCall", "NoProgram", "Broken", "NoPairs"):
            self.assertGreater(seen.count(kind), 4, kind)


if __name__ == "__main__":
    unittest.main()
