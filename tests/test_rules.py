"""Promises 10 and 11, and 2 where it speaks of them: calls read and written."""

import unittest

from samples import GOINGS, LONE_WORDS, WHATS, many
from squarecall import errors
from squarecall.errors import FloorError, NoCall
from squarecall.rules import read_call, shown_call

OTHERS = (
    errors.NotEven, errors.NoName, errors.NoProgram, errors.TooMany, errors.NoPairs, errors.NoRow,
    errors.Blind, errors.Out, errors.Meet, errors.Broken,
)

STAY = (("stay",),)


class TextOfItsOwn(str):
    pass


class CallTest(unittest.TestCase):
    def told(self, text, call):
        with self.subTest(text=text):
            self.assertEqual(read_call(text), call)
            self.assertEqual(shown_call(call), text)
            self.assertEqual(shown_call(read_call(text)), text)
            self.assertEqual(read_call(shown_call(call)), call)

    def one_test_told(self, text, test):
        self.told(f"{text} > stay", [((test,), STAY)])
        self.told(f"not {text} > stay", [((("not", test),), STAY)])

    def one_step_told(self, text, step):
        self.told(f"> {text}", [((), (step,))])

    def refused(self, text):
        with self.subTest(text=text):
            with self.assertRaises(NoCall) as taken:
                read_call(text)
            self.assertIsInstance(taken.exception, FloorError)
            self.assertNotIsInstance(taken.exception, OTHERS)

    def no_test(self, text):
        self.refused(f"{text} > stay")
        self.refused(f"not {text} > stay")
        self.refused(f"head and {text} > stay")
        self.refused(f"{text} and head > stay")

    def no_step(self, text):
        self.refused(f"> {text}")
        self.refused(f"> turn left {text}")
        self.refused(f"> {text} turn left")
        self.refused(f"head > {text}")


class Read(CallTest):
    def test_a_call_of_several_rules(self):
        self.told(
            "at 2 0 about and not head > ahead 1 turn right ; inner 3 > stay ; > left 2 back 9",
            [
                ((("at", 2, 0, "about"), ("not", ("head",))), (("ahead", 1), ("turn", "right"))),
                ((("inner", 3),), (("stay",),)),
                ((), (("left", 2), ("back", 9))),
            ],
        )

    def test_each_what(self):
        for what in WHATS:
            self.one_test_told(f"at 2 -1 {what}", ("at", 2, -1, what))

    def test_each_ahead_and_right(self):
        for ahead in range(-9, 10):
            for right in range(-9, 10):
                if (ahead, right) != (0, 0):
                    self.told(f"at {ahead} {right} any > stay", [((("at", ahead, right, "any"),), STAY)])

    def test_each_inner(self):
        for wide in range(201):
            self.one_test_told(f"inner {wide}", ("inner", wide))

    def test_each_word_by_itself(self):
        for word in LONE_WORDS:
            self.one_test_told(word, (word,))

    def test_each_step(self):
        for word in GOINGS:
            for far in range(1, 10):
                self.one_step_told(f"{word} {far}", (word, far))
        for way in ("left", "right", "about"):
            self.one_step_told(f"turn {way}", ("turn", way))
        self.one_step_told("stay", ("stay",))

    def test_one_to_twelve_rules(self):
        for count in range(1, 13):
            text = " ; ".join(["head > stay", "> turn left"] * 6)
            text = " ; ".join(text.split(" ; ")[:count])
            call = [((("head",),), STAY), ((), (("turn", "left"),))] * 6
            self.told(text, call[:count])

    def test_none_to_six_tests(self):
        tests = (("head",), ("not", ("lefts",)), ("inner", 7), ("at", 1, 0, "none"), ("not", ("inner", 0)), ("inward",))
        words = ("head", "not lefts", "inner 7", "at 1 0 none", "not inner 0", "inward")
        self.told("> stay", [((), STAY)])
        for count in range(1, 7):
            self.told(" and ".join(words[:count]) + " > stay", [(tests[:count], STAY)])

    def test_one_to_eight_steps(self):
        steps = (
            ("ahead", 1), ("turn", "left"), ("left", 9), ("back", 3), ("turn", "about"), ("right", 2),
            ("turn", "right"), ("ahead", 8),
        )
        for count in range(1, 9):
            text = " ".join(f"{word} {more}" for word, more in steps[:count])
            self.told(f"> {text}", [((), steps[:count])])
            self.told(f"side > {text}", [((("side",),), steps[:count])])

    def test_the_same_test_and_the_same_rule_again(self):
        self.told("head and head > stay ; head and head > stay", [((("head",), ("head",)), STAY)] * 2)

    def test_left_of_a_step_behind_left_of_a_turn(self):
        self.told("> turn left left 2 turn right right 3",
                  [((), (("turn", "left"), ("left", 2), ("turn", "right"), ("right", 3)))])

    def test_kinds(self):
        call = read_call("not at 1 -2 any and inner 3 > ahead 2 turn left ; > stay")
        self.assertIs(type(call), list)
        for rule in call:
            self.assertIs(type(rule), tuple)
            self.assertEqual([type(part) for part in rule], [tuple, tuple])
        tests, steps = call[0]
        self.assertEqual([type(test) for test in tests + steps], [tuple] * 4)
        self.assertEqual([type(part) for part in tests[0]], [str, tuple])
        self.assertEqual([type(part) for part in tests[0][1]], [str, int, int, str])
        self.assertEqual([type(part) for part in tests[1]], [str, int])
        self.assertEqual([type(part) for part in steps[0]], [str, int])

    def test_a_text_of_a_kind_of_its_own(self):
        self.assertEqual(read_call(TextOfItsOwn("head > stay")), [((("head",),), STAY)])

    def test_many_calls_are_written_and_read_again_alike(self):
        for floor, call in many():
            self.assertEqual(read_call(shown_call(call)), call)

    def test_arguments_as_they_are_called(self):
        self.assertEqual(read_call(text="> stay"), [((), STAY)])
        self.assertEqual(shown_call(call=[((), STAY)]), "> stay")


class Refused(CallTest):
    def test_no_text(self):
        things = (
            None, True, False, 0, 1, 12, -1, 1.5, b"> stay", bytearray(b"> stay"), (), [], {}, set(), object(),
            ["> stay"], ("> stay",), {"> stay": 1}, [">", "stay"], [((), STAY)], ((), STAY), str, len,
        )
        for thing in things:
            self.refused(thing)

    def test_the_text_without_signs(self):
        self.refused("")

    def test_thirteen_rules_and_more(self):
        for count in (13, 14, 24, 300):
            self.refused(" ; ".join(["> stay"] * count))
            self.refused(" ; ".join(["head > stay"] * count))

    def test_seven_tests_and_more(self):
        for count in (7, 8, 100):
            self.refused(" and ".join(["head"] * count) + " > stay")
            self.refused(" and ".join(["not at 1 1 any"] * count) + " > stay")

    def test_no_step(self):
        for text in (">", "> ", "head >", "head > ", "head", ">  ", "> ; > stay", "> stay ; >", "head > ; > stay"):
            self.refused(text)

    def test_nine_steps_and_more(self):
        for count in (9, 10, 100):
            self.refused("> " + " ".join(["turn left"] * count))
            self.refused("> " + " ".join(["ahead 1"] * count))

    def test_stay_beside_another_step(self):
        for text in ("> stay stay", "> stay ahead 1", "> ahead 1 stay", "> turn left stay", "> ahead 1 stay back 1",
                     "> stay turn left", "> stay stay stay", "> stay 1", "> stay 0", "> stay left", "> turn stay",
                     "> ahead stay", "> ahead 1 stay stay"):
            self.refused(text)

    def test_at_beyond_its_numbers(self):
        for number in (-10, 10, -11, 11, 19, 90, -90, 99, 100, 10 ** 59, -10 ** 59):
            for other in (-9, 0, 1, 9):
                self.no_test(f"at {number} {other} any")
                self.no_test(f"at {other} {number} any")

    def test_at_the_own_spot(self):
        for what in WHATS:
            self.no_test(f"at 0 0 {what}")

    def test_inner_beyond_its_numbers(self):
        for number in (-1, 201, -200, 202, 300, 1000, 2000, 10 ** 59):
            self.no_test(f"inner {number}")

    def test_steps_beyond_their_numbers(self):
        for word in GOINGS:
            for number in (0, 10, -1, -9, 11, 19, 99, 10 ** 59):
                self.no_step(f"{word} {number}")

    def test_not_twice_or_by_itself(self):
        for text in ("not not head", "not", "not not", "not not not head", "head not", "not at", "nothead", "not-head"):
            self.refused(f"{text} > stay")
            self.refused(f"head and {text} > stay")
        for text in ("not > stay", "not and head > stay", "> not stay", "> not turn left", "not not inner 3 > stay",
                     "not not at 1 1 any > stay", "at not 1 1 any > stay", "at 1 1 not any > stay", "not ; > stay"):
            self.refused(text)

    def test_numbers_written_otherwise(self):
        wrong = (
            "01", "00", "+1", "-0", "+0", "-01", "--1", "- 1", "1.0", "1.", "1e0", "0x1", "1_0", "one", "", "-",
            "\u0661", "\uff11", "\u00b9", "\u2460", "\u0967", "\u00bd", "\u2160", "\u22121", "1\u0301", "\u2013" + "1",
            " 1", "1 ", "1\t", "\t1", "1\n", "\u00a01", "1,0", "'1'", "None", "True", "0b1", "1L", "1j", "I",
        )
        for number in wrong:
            self.no_test(f"at {number} 1 any")
            self.no_test(f"at 1 {number} any")
            self.no_test(f"inner {number}")
            for word in GOINGS:
                self.no_step(f"{word} {number}")
        for number in ("09", "009", "-09", "\u0669", "\u06f9", "-\u0669"):
            self.no_test(f"at {number} 1 any")
            self.no_step(f"ahead {number}")
        for number in ("0200", "010", "+200", "\u0662\u0660\u0660", "2 00", "1\u0660", "20\uff10"):
            self.no_test(f"inner {number}")

    def test_blanks(self):
        text = "at 1 -2 any and not inner 3 > ahead 2 turn left ; head > stay ; > back 1"
        read_call(text)
        for place, sign in enumerate(text):
            if sign == " ":
                self.refused(text[:place] + text[place + 1:])
                for other in ("  ", "\t", "\n", "\r", "\x0b", "\x0c", "\u00a0", "\u2003", "\u3000", " \t", "\x1f", "\x85",
                              "\u2028", "_", ","):
                    self.refused(text[:place] + other + text[place + 1:])
        for white in (" ", "\t", "\n", "\r", "\u00a0", "\x0c", "\x00", "\ufeff", "\u200b"):
            self.refused(white + text)
            self.refused(text + white)
            self.refused(white + text + white)
            self.refused(white)

    def test_semicolons(self):
        for text in ("> stay;> stay", "> stay ;> stay", "> stay; > stay", "> stay  ;  > stay", "; > stay", "> stay ;",
                     " ; > stay", "> stay ; ", "> stay ; ; > stay", "> stay ;  ; > stay", ";", " ; ", " ;", "; ", ";;",
                     "> stay ;\n> stay", "> stay , > stay", "head ; > stay", "head > ; stay", "> stay ;; > stay",
                     "> stay\n;\n> stay", "> stay \uff1b > stay", "> stay . > stay"):
            self.refused(text)

    def test_ands(self):
        for text in ("and", "head and", "and head", "head and and side", "head and and and side", "and and",
                     "head side", "head or side", "head, side", "head AND side", "head and  and side", "head &&", "head & side"):
            self.refused(f"{text} > stay")
        for text in ("head and > stay", "and > stay", "> stay and stay", "> ahead 1 and back 1", "> turn left and",
                     "> and turn left", "head and ; > stay"):
            self.refused(text)

    def test_arrows(self):
        for text in ("stay", "head stay", "head ahead 1", "head > > stay", "> > stay", "> stay >", "> stay > stay",
                     "head > side > stay", "head >stay", "head> stay", ">stay", "head -> stay", "head >> stay",
                     ">> stay", "head < stay", "head : stay", "head => stay", "> ahead > 1", "head > stay > stay",
                     "stay > head", "ahead 1 > head", "> head", "> head > stay", "turn left", "ahead 1", "> inner 3"):
            self.refused(text)

    def test_words_missing(self):
        for text in ("at", "at 1", "at 1 1", "at any", "at 1 any", "inner", "1 1 any", "1", "any", "partner"):
            self.no_test(text)
        for text in ("ahead", "back", "left", "right", "1", "turn", "about"):
            self.refused(f"> {text}")
            self.refused(f"> turn left {text}")
            self.refused(f"> {text} turn left")

    def test_words_too_many(self):
        for text in ("at 1 1 any any", "at 1 1 1 any", "inner 1 1", "inner 1 any", "head 1", "head head", "lefts 1",
                     "inward 1", "at 1 1 not any", "at at 1 1 any", "inner inner 1", "at 1 1 head", "head any"):
            self.no_test(text)
        for text in ("ahead 1 1", "turn left 1", "turn left about", "turn left right", "ahead 1 left", "stay 1 1",
                     "turn turn left", "ahead ahead 1", "ahead 1 2 3"):
            self.refused(f"> {text}")

    def test_unknown_words(self):
        for text in ("heads", "sides", "left", "right", "Head", "HEAD", "heade", "hea", "inwards", "out", "outwards",
                     "sideway", "ahead", "none", "stay", "partner", "opposite", "dancer", "inners 3", "Inner 3", "inside 3",
                     "at 1 1 some", "at 1 1 nobody", "at 1 1 Any", "at 1 1 around", "at 1 1 lefts", "at 1 1 rights",
                     "at 1 1 inward", "at 1 1 2", "At 1 1 any", "on 1 1 any", "at 1 1 an", "at 1 1 anyone"):
            self.no_test(text)
        for text in ("forward 1", "Ahead 1", "ahea 1", "lefts 1", "about 1", "turn 1", "turn ahead", "turn back",
                     "turn around", "turn Left", "turn same", "turn lefts", "Turn left", "move 1", "stop", "Stay", "stays",
                     "go ahead", "inner 1", "at 1", "same 1", "none 1"):
            self.no_step(text)

    def test_a_wrong_rule_at_any_place(self):
        for count in range(1, 13):
            for place in range(count):
                rules = ["head > stay"] * count
                rules[place] = "head > sta"
                self.refused(" ; ".join(rules))


class Own(CallTest):
    def test_a_list_told_is_changed_and_the_same_text_read_again(self):
        text = "head and not at 1 0 any > ahead 1 ; > stay"
        call = read_call(text)
        before = list(call)
        call[0] = None
        call.append("more")
        again = read_call(text)
        self.assertEqual(again, before)
        again.clear()
        self.assertEqual(read_call(text), before)

    def test_each_list_told_is_a_new_one(self):
        self.assertIsNot(read_call("> stay"), read_call("> stay"))

    def test_a_call_shown_stays_and_may_be_changed_later(self):
        call = read_call("head > stay ; > turn left")
        before = list(call)
        self.assertEqual(shown_call(call), "head > stay ; > turn left")
        self.assertEqual(call, before)
        call.reverse()
        self.assertEqual(shown_call(call), "> turn left ; head > stay")
        self.assertEqual(shown_call(before), "head > stay ; > turn left")

    def test_what_is_refused_changes_nothing(self):
        self.refused("head > stay ; head > sta")
        self.told("head > stay ; head > stay", [((("head",),), STAY)] * 2)
        thing = ["> stay"]
        self.refused(thing)
        self.assertEqual(thing, ["> stay"])


if __name__ == "__main__":
    unittest.main()
