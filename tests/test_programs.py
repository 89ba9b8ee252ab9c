"""Promise 16, and 2 where it speaks of programs read and written."""

import random
import unittest

from samples import SOMES, others, some_items
from squarecall.books import Book
from squarecall.errors import FloorError, NoProgram
from squarecall.programs import read_program, shown_program

BOOK = Book({"a": "> stay", "b": "> turn left", "up": "> ahead 1", "longname": "> back 1"})
KEPT = ("times", "heads", "sides", "lefts", "rights", "inner", "couples")

A = ("call", "a")
B = ("call", "b")

# What stands ahead of a bracket, and the item's parts ahead of its items.
HEADS = {"3 times": ("times", 3), "inner 7": ("inner", 7), "couples": ("couples",)}
HEADS.update({word: ("some", word) for word in SOMES})


class TextOfItsOwn(str):
    pass


class ProgramTest(unittest.TestCase):
    def told(self, text, items):
        with self.subTest(text=text):
            self.assertEqual(read_program(BOOK, text), items)
            self.assertEqual(shown_program(items), text)
            self.assertEqual(shown_program(read_program(BOOK, text)), text)
            self.assertEqual(read_program(BOOK, shown_program(items)), items)

    def refused(self, text, book=BOOK):
        with self.subTest(text=text):
            with self.assertRaises(NoProgram) as taken:
                read_program(book, text)
            self.assertIsInstance(taken.exception, FloorError)
            self.assertNotIsInstance(taken.exception, others(NoProgram))

    def refused_everywhere(self, text):
        """By itself, ahead of and behind other items, and within each bracket."""
        for row in (text, f"{text} a", f"a {text}", f"a {text} heads ( b )", f"heads ( b ) {text}"):
            self.refused(row)
            for head in HEADS:
                self.refused(f"{head} ( {row} )")


class Read(ProgramTest):
    def test_the_text_without_signs(self):
        self.told("", [])
        self.assertEqual(read_program(Book({}), ""), [])

    def test_names(self):
        self.told("a", [A])
        self.told("a b", [A, B])
        self.told("longname up up a longname", [("call", name) for name in "longname up up a longname".split()])

    def test_each_bracket(self):
        self.told("3 times ( a )", [("times", 3, [A])])
        self.told("heads ( a )", [("some", "heads", [A])])
        self.told("sides ( a )", [("some", "sides", [A])])
        self.told("lefts ( a )", [("some", "lefts", [A])])
        self.told("rights ( a )", [("some", "rights", [A])])
        self.told("inner 7 ( a )", [("inner", 7, [A])])
        self.told("couples ( a )", [("couples", [A])])

    def test_several_items_in_each_bracket(self):
        for head, parts in HEADS.items():
            self.told(f"{head} ( a b a )", [parts + ([A, B, A],)])
            self.told(f"b {head} ( a b ) a", [B, parts + ([A, B],), A])

    def test_each_bracket_within_each_other_one(self):
        for outer, above in HEADS.items():
            for inner, below in HEADS.items():
                self.told(f"{outer} ( {inner} ( a ) )", [above + ([below + ([A],)],)])
                self.told(f"{outer} ( b {inner} ( a b ) a )", [above + ([B, below + ([A, B],), A],)])
                self.told(f"{outer} ( a ) {inner} ( b )", [above + ([A],), below + ([B],)])
                self.told(f"{outer} ( {inner} ( a ) {outer} ( b ) ) {inner} ( b )",
                          [above + ([below + ([A],), above + ([B],)],), below + ([B],)])

    def test_each_number_of_times(self):
        for number in range(1, 61):
            self.told(f"{number} times ( a )", [("times", number, [A])])

    def test_each_number_of_inner(self):
        for number in range(201):
            self.told(f"inner {number} ( a )", [("inner", number, [A])])

    def test_one_to_six_open(self):
        for head, parts in HEADS.items():
            items = [A]
            for depth in range(1, 7):
                items = [parts + (items,)]
                self.told(f"{head} ( " * depth + "a" + " )" * depth, items)
        self.told("heads ( 2 times ( inner 0 ( couples ( lefts ( sides ( a b ) ) b ) ) ) )", [("some", "heads", [
            ("times", 2, [("inner", 0, [("couples", [("some", "lefts", [("some", "sides", [A, B])]), B])])])])])

    def test_six_open_again_and_again(self):
        deep = "heads ( " * 6 + "a" + " )" * 6
        items = read_program(BOOK, deep)
        self.told(f"{deep} {deep} {deep}", items * 3)
        self.told("heads ( " + " ".join(["sides ( a )"] * 20) + " )",
                  [("some", "heads", [("some", "sides", [A])] * 20)])

    def test_more_than_six_brackets_of_which_not_six_are_open(self):
        self.told(" ".join(["heads ( a )"] * 50), [("some", "heads", [A])] * 50)

    def test_a_long_text(self):
        self.told(" ".join(["a"] * 2000), [A] * 2000)
        self.told("heads ( " + " ".join(["up"] * 1300) + " )", [("some", "heads", [("call", "up")] * 1300)])

    def test_names_that_only_this_book_has(self):
        self.assertEqual(read_program(Book({"zig": "> stay"}), "zig heads ( zig )"),
                         [("call", "zig"), ("some", "heads", [("call", "zig")])])
        self.refused("zig")
        self.refused("a", Book({"zig": "> stay"}))

    def test_names_like_other_words(self):
        names = ("time", "head", "left", "call", "some", "at", "not", "stay", "turn")
        book = Book(dict.fromkeys(names, "> stay"))
        text = "2 times ( time head ) left inner 3 ( call some ) at not stay turn"
        self.assertEqual(shown_program(read_program(book, text)), text)

    def test_a_text_of_a_kind_of_its_own(self):
        self.assertEqual(read_program(BOOK, TextOfItsOwn("a heads ( b )")), [A, ("some", "heads", [B])])

    def test_many_programs_are_written_and_read_again_alike(self):
        source = random.Random(16)
        for place in range(300):
            items = some_items(source, BOOK.names())
            self.assertEqual(read_program(BOOK, shown_program(items)), items)

    def test_kinds(self):
        items = read_program(BOOK, "a 3 times ( heads ( inner 7 ( couples ( b ) ) ) )")
        self.assertIs(type(items), list)
        self.assertEqual([type(part) for part in items[0]], [str, str])
        for parts in ([str, int, list], [str, str, list], [str, int, list], [str, list]):
            self.assertIs(type(items[-1]), tuple)
            self.assertEqual([type(part) for part in items[-1]], parts)
            items = items[-1][-1]
        self.assertEqual(items, [B])

    def test_arguments_as_they_are_called(self):
        self.assertEqual(read_program(text="a", book=BOOK), [A])
        self.assertEqual(shown_program(items=[A]), "a")


class Refused(ProgramTest):
    def test_no_text(self):
        for thing in (None, True, False, 0, 1, -1, 1.5, b"a", b"", bytearray(b"a"), (), [], {}, set(), object(), ["a"],
                      ("a",), [A], [("call", "a")], ("call", "a"), {"a": "a"}, str, len, BOOK):
            self.refused(thing)

    def test_names_that_the_book_has_not(self):
        for name in ("c", "aa", "A", "u", "ups", "Up", "longnam", "longnames", "call", "none", "1", "3", "\u0430", "stay"):
            self.refused_everywhere(name)
        self.refused("a", Book({}))
        self.refused("heads ( a )", Book({}))

    def test_kept_words_by_themselves(self):
        for word in KEPT:
            self.refused_everywhere(word)
            self.refused(f"{word} {word}")
            self.refused(f"{word} ( {word} )")

    def test_heads_without_brackets(self):
        for head in HEADS:
            self.refused(head)
            self.refused(f"{head} a")
            self.refused(f"a {head}")
            self.refused(f"{head} {head} ( a )")

    def test_times_beyond_its_numbers(self):
        for number in (0, 61, -1, -60, 62, 99, 100, 200, 600, 10 ** 59):
            self.refused_everywhere(f"{number} times ( a )")

    def test_inner_beyond_its_numbers(self):
        for number in (-1, 201, -200, 202, 300, 1000, 2000, 10 ** 59):
            self.refused_everywhere(f"inner {number} ( a )")

    def test_numbers_written_otherwise(self):
        for number in ("01", "00", "007", "060", "+1", "+0", "-0", "-1", "--1", "- 1", "1.0", "1.", "1e0", "0x1", "1_0", "",
                       "-", "one", "\u0661", "\u0663\u0660", "\uff11", "\u00b9", "\u2460", "\u0967", "\u00bd", "\u2160",
                       "\u22121", "1\u0301", " 1", "1 ", "1\t", "1\n", "\u00a01", "1,0", "'1'", "I", "a", "1\u0660", "(", ")"):
            self.refused(f"{number} times ( a )")
            self.refused(f"inner {number} ( a )")
            self.refused(f"heads ( {number} times ( a ) )")
            self.refused(f"b {number} times ( a ) b")
            self.refused(f"b inner {number} ( a ) b")

    def test_numbers_where_none_belongs_or_missing(self):
        for text in ("times ( a )", "inner ( a )", "times 3 ( a )", "3 inner ( a )", "3 times 3 ( a )", "3 3 times ( a )",
                     "inner 3 3 ( a )", "inner 3 times ( a )", "3 ( a )", "heads 3 ( a )", "3 heads ( a )",
                     "couples 3 ( a )", "3 couples ( a )", "3 a", "3 times a", "inner 3 a", "3 times inner 3 ( a )",
                     "inner inner ( a )", "times times ( a )", "inner times ( a )", "a times ( a )", "inner a ( a )"):
            self.refused_everywhere(text)

    def test_brackets_without_an_item_between(self):
        for head in HEADS:
            self.refused_everywhere(f"{head} ( )")
            self.refused_everywhere(f"{head} (  )")
            self.refused_everywhere(f"{head} ()")
            self.refused_everywhere(f"{head} ( {head} ( ) )")
            self.refused_everywhere(f"{head} ( a {head} ( ) )")

    def test_brackets_missing(self):
        for head in HEADS:
            for text in (f"{head} ( a", f"{head} (", f"{head} a )", f"{head} )", f"{head} ( {head} ( a )",
                         f"{head} ( a {head} ( b )", f"{head} {head} ( a ) )", f"{head} ( {head} a ) )"):
                self.refused(text)
                self.refused(f"b {text}")
                self.refused(f"{text} b")

    def test_brackets_too_many(self):
        for text in ("(", ")", "( )", ") (", "( a )", "a ( b )", "( a ) b", "a )", "( a", "( ( a ) )", "a ( )"):
            self.refused(text)
            self.refused(f"b {text}")
            self.refused(f"{text} b")
        for head in HEADS:
            for text in (f"{head} ( a ) )", f"{head} ( ( a )", f"{head} ( ( a ) )", f"{head} ( a ) ( b )", f"( {head} ( a ) )",
                         f"{head} ( a ( b ) )", f"{head} ( a ) ) a", f") {head} ( a )", f"{head} ( a ) (",
                         f"( {head} ( a )", f"{head} ( ) a )"):
                self.refused(text)

    def test_brackets_in_the_wrong_order(self):
        for head in HEADS:
            for text in (f"{head} ) a (", f"{head} ) a ( b )", f"{head} ) ( a )", f"{head} ) ( ( a ) )", f"( {head} a )",
                         f"( a ) {head}", f"{head} a ( )", f"a ) {head} (", f"a {head} ) ("):
                self.refused(text)

    def test_other_brackets(self):
        for opening, closing in ("[]", "{}", "<>", "\uff08\uff09", ("((", "))"), ("begin", "end")):
            self.refused(f"heads {opening} a {closing}")

    def test_seven_open_and_more(self):
        for depth in (7, 8, 20, 300):
            for head in HEADS:
                self.refused(f"{head} ( " * depth + "a" + " )" * depth)
        for text in ("heads ( " * 6 + "a sides ( b )" + " )" * 6, "heads ( " * 5 + "a sides ( b 2 times ( a ) )" + " )" * 5,
                     "a heads ( a ) " + "heads ( " * 7 + "a" + " )" * 7 + " b"):
            self.refused(text)

    def test_blanks(self):
        text = "a 3 times ( b heads ( up ) ) inner 7 ( a couples ( b ) ) up"
        read_program(BOOK, text)
        for place, sign in enumerate(text):
            if sign == " ":
                self.refused(text[:place] + text[place + 1:])
                for other in ("  ", "\t", "\n", "\r", "\x0b", "\x0c", "\u00a0", "\u2003", "\u3000", " \t", "\x1f", "\x85",
                              "\u2028", "_", ",", ";"):
                    self.refused(text[:place] + other + text[place + 1:])
        for white in (" ", "\t", "\n", "\r", "\u00a0", "\x0c", "\x00", "\ufeff", "\u200b", "  "):
            for row in ("a", "heads ( a )", text):
                self.refused(white + row)
                self.refused(row + white)
                self.refused(white + row + white)
            self.refused(white)

    def test_other_words(self):
        for text in ("head ( a )", "side ( a )", "left ( a )", "right ( a )", "couple ( a )", "time ( a )", "3 time ( a )",
                     "inners 3 ( a )", "Heads ( a )", "HEADS ( a )", "3 Times ( a )", "Inner 3 ( a )", "Couples ( a )",
                     "heads: ( a )", "not heads ( a )", "heads and sides ( a )", "heads lefts ( a )", "all ( a )",
                     "heads sides ( a )", "times 3 times ( a )", "couples couples ( a )", "a heads", "a - b", "a ; b"):
            self.refused_everywhere(text)

    def test_a_wrong_item_at_any_place(self):
        words = "a 3 times ( b heads ( up ) ) inner 7 ( a couples ( b ) ) up".split(" ")
        for place in range(len(words)):
            for word in ("c", "", "7a", "((", "Heads"):
                self.refused(" ".join(words[:place] + [word] + words[place + 1:]))


class Own(ProgramTest):
    def test_a_list_told_is_changed_and_the_same_text_read_again(self):
        text = "a 3 times ( heads ( inner 7 ( couples ( b ) ) ) )"
        before = [A, ("times", 3, [("some", "heads", [("inner", 7, [("couples", [B])])])])]
        for depth in range(5):
            items = read_program(BOOK, text)
            again = read_program(BOOK, text)
            inside = items
            for level in range(depth):
                inside = inside[-1][-1]
            inside.append(A)
            inside[0] = None
            self.assertEqual(again, before)
            self.assertEqual(read_program(BOOK, text), before)

    def test_alike_brackets_have_lists_of_their_own(self):
        for text in ("heads ( a ) heads ( a )", "2 times ( heads ( a ) heads ( a ) )", "couples ( a ) couples ( a )"):
            items = read_program(BOOK, text)
            row = items if len(items) == 2 else items[0][-1]
            row[0][-1].append(B)
            self.assertEqual(row[1][-1], [A])

    def test_the_text_without_signs_tells_a_new_list_each_time(self):
        items = read_program(BOOK, "")
        items.append(A)
        self.assertEqual(read_program(BOOK, ""), [])

    def test_what_is_written_stays_and_may_be_changed_later(self):
        items = [A, ("times", 3, [B, ("some", "heads", [A])])]
        self.assertEqual(shown_program(items), "a 3 times ( b heads ( a ) )")
        self.assertEqual(items, [A, ("times", 3, [B, ("some", "heads", [A])])])
        items[1][2][1][2].append(B)
        items.append(B)
        self.assertEqual(shown_program(items), "a 3 times ( b heads ( a b ) ) b")

    def test_reading_leaves_the_book(self):
        book = Book({"a": "> stay", "b": "> turn left"})
        read_program(book, "a heads ( b )")
        self.refused("a c", book)
        self.assertEqual(book.names(), ["a", "b"])
        self.assertEqual(book.call("a"), [((), (("stay",),))])

    def test_what_is_refused_changes_nothing(self):
        self.refused("a heads ( b ) c")
        self.told("a heads ( b )", [A, ("some", "heads", [B])])
        thing = ["a"]
        self.refused(thing)
        self.assertEqual(thing, ["a"])


if __name__ == "__main__":
    unittest.main()
