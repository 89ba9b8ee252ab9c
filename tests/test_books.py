"""Promise 15, and 2 where it speaks of books."""

import itertools
import unittest

from samples import others
from squarecall.books import Book
from squarecall.errors import FloorError, NoCall, NoName, TooMany
from squarecall.rules import read_call

TEXTS = {
    "trade": "lefts > right 2 ; > left 2",
    "up": "> ahead 1",
    "down": "> back 1",
    "a": "head and not inner 3 > turn left ; > stay",
    "zzzzzzzz": "> stay",
}

KEPT = ("times", "heads", "sides", "lefts", "rights", "inner", "couples")

NO_NAMES = (
    "", " ", "ninechars", "abcdefghi", "a" * 60, "Up", "uP", "UP", "up1", "1", "u p", " up", "up ", "up\n", "\tup",
    "u-p", "u_p", "up.", "(", ")", "\u00e4", "\u00e4hm", "\u0430", "\u03b1", "\u00df", "\ufb01", "\u00aa", "\uff41",
    "u\u0301", "\u0131", "\x00", "up\x00", "`", "{", "@",
    None, True, False, 0, 1, -1, 1.5, (), ("up",), ("u", "p"), b"up", frozenset(), frozenset(("up",)), str, len,
) + KEPT

NO_CALLS = (
    "", " ", "stay", ">", "> sta", "> stay ", " > stay", "head", "> stay ;", "> ahead 10", "inner 201 > stay",
    None, True, False, 0, 1, [], ["> stay"], ("> stay",), {}, b"> stay", [((), (("stay",),))], object(),
)


class TextOfItsOwn(str):
    pass


def names_of(count):
    return ["".join(signs) for signs in itertools.product("abcdefgh", repeat=2)][:count]


class BookTest(unittest.TestCase):
    def refused(self, kind, doing, *given):
        with self.subTest(given=given):
            with self.assertRaises(kind) as taken:
                doing(*given)
            self.assertIsInstance(taken.exception, FloorError)
            self.assertNotIsInstance(taken.exception, others(kind))


class Made(BookTest):
    def test_of_none(self):
        book = Book({})
        self.assertEqual(book.names(), [])
        self.refused(NoName, book.call, "up")

    def test_of_one(self):
        book = Book({"up": "> ahead 1"})
        self.assertEqual(book.names(), ["up"])
        self.assertEqual(book.call("up"), [((), (("ahead", 1),))])

    def test_of_several(self):
        book = Book(TEXTS)
        self.assertEqual(book.names(), ["a", "down", "trade", "up", "zzzzzzzz"])
        for name, text in TEXTS.items():
            self.assertEqual(book.call(name), read_call(text))

    def test_names_are_sorted_whatever_the_order_of_the_dict(self):
        for order in itertools.permutations(TEXTS):
            book = Book({name: TEXTS[name] for name in order})
            self.assertEqual(book.names(), ["a", "down", "trade", "up", "zzzzzzzz"])
            self.assertEqual(book.call("trade"), read_call(TEXTS["trade"]))

    def test_names_are_sorted_as_texts_are(self):
        names = ["b", "ab", "aa", "a", "ba", "aab", "z", "abc"]
        self.assertEqual(Book(dict.fromkeys(names, "> stay")).names(),
                         ["a", "aa", "aab", "ab", "abc", "b", "ba", "z"])

    def test_of_sixty(self):
        for count in (59, 60):
            texts = {name: f"> ahead {place % 9 + 1}" for place, name in enumerate(reversed(names_of(count)))}
            book = Book(texts)
            self.assertEqual(book.names(), names_of(count))
            for name in names_of(count):
                self.assertEqual(book.call(name), read_call(texts[name]))

    def test_names_of_one_to_eight_of_all_letters(self):
        names = ["abcdefghijklmnopqrstuvwxyz"[start:start + length] for length in range(1, 9) for start in (0, 18)]
        names += list("abcdefghijklmnopqrstuvwxyz")
        book = Book(dict.fromkeys(names, "> stay"))
        self.assertEqual(book.names(), sorted(set(names)))
        for name in names:
            self.assertEqual(book.call(name), [((), (("stay",),))])

    def test_words_of_calls_and_near_kept_words_are_names(self):
        names = ["time", "head", "side", "left", "right", "inners", "couple", "timess", "at", "not", "and", "stay",
                 "ahead", "partner", "none", "call", "some", "run"]
        self.assertEqual(Book(dict.fromkeys(names, "> stay")).names(), sorted(names))

    def test_a_name_of_a_kind_of_its_own(self):
        book = Book({TextOfItsOwn("up"): TextOfItsOwn("> stay")})
        self.assertEqual(book.names(), ["up"])
        self.assertEqual(book.call("up"), [((), (("stay",),))])
        self.assertEqual(book.call(TextOfItsOwn("up")), [((), (("stay",),))])

    def test_arguments_as_they_are_called(self):
        self.assertEqual(Book(texts={"up": "> stay"}).call(name="up"), [((), (("stay",),))])

    def test_two_books_have_nothing_of_one_another(self):
        one = Book({"up": "> ahead 1", "only": "> stay"})
        other = Book({"up": "> ahead 2"})
        self.assertEqual((one.names(), other.names()), (["only", "up"], ["up"]))
        self.assertEqual(one.call("up"), [((), (("ahead", 1),))])
        self.assertEqual(other.call("up"), [((), (("ahead", 2),))])
        self.refused(NoName, other.call, "only")


class Asked(BookTest):
    def test_names_that_are_not_in_the_book(self):
        for name in ("b", "ups", "u", "trad", "trades", "zzzzzzz", "dow"):
            self.refused(NoName, Book(TEXTS).call, name)

    def test_what_is_no_name(self):
        for thing in NO_NAMES + ([], ["up"], {}, {"up": "> stay"}, set(), {"up"}, bytearray(b"up"), object()):
            self.refused(NoName, Book(TEXTS).call, thing)
            self.refused(NoName, Book({}).call, thing)

    def test_what_is_refused_changes_nothing(self):
        book = Book(TEXTS)
        things = ["up"]
        self.refused(NoName, book.call, things)
        self.refused(NoName, book.call, "ups")
        self.assertEqual(things, ["up"])
        self.assertEqual(book.names(), sorted(TEXTS))
        self.refused(NoName, book.call, "ups")


class Refused(BookTest):
    def test_a_name_that_is_none(self):
        for name in NO_NAMES:
            self.refused(NoName, Book, {name: "> stay"})
            self.refused(NoName, Book, {"up": "> stay", name: "> stay"})
            self.refused(NoName, Book, {name: "> stay", "up": "> stay"})

    def test_a_text_that_is_none(self):
        for text in NO_CALLS:
            self.refused(NoCall, Book, {"up": text})
            self.refused(NoCall, Book, {"up": text, "down": "> stay"})
            self.refused(NoCall, Book, {"down": "> stay", "up": text})

    def test_no_name_comes_ahead_of_no_call(self):
        for name in ("", "Up", "inner", None, 3):
            for text in ("", "stay", None):
                self.refused(NoName, Book, {name: text})
                self.refused(NoName, Book, {"up": text, name: "> stay"})
                self.refused(NoName, Book, {name: "> stay", "up": text})
                self.refused(NoName, Book, {"a": text, name: "> stay", "z": text})

    def test_sixty_one_and_more(self):
        for count in (61, 62, 64):
            self.refused(TooMany, Book, dict.fromkeys(names_of(count), "> stay"))

    def test_too_many_comes_ahead_of_all(self):
        for name in ("Up", "", None, "inner"):
            self.refused(TooMany, Book, {**dict.fromkeys(names_of(60), "> stay"), name: "> stay"})
            self.refused(TooMany, Book, {name: "> stay", **dict.fromkeys(names_of(60), "> stay")})
            self.refused(TooMany, Book, {name: "stay", **dict.fromkeys(names_of(60), None)})
            self.refused(NoName, Book, {**dict.fromkeys(names_of(59), "> stay"), name: "> stay"})
            self.refused(NoName, Book, {**dict.fromkeys(names_of(59), "stay"), name: "> stay"})
        for text in NO_CALLS:
            self.refused(TooMany, Book, {"up": text, **dict.fromkeys(names_of(60), "> stay")})
            self.refused(NoCall, Book, {"up": text, **dict.fromkeys(names_of(59), "> stay")})
        self.refused(TooMany, Book, {number: number for number in range(61)})
        self.refused(NoName, Book, {number: number for number in range(60)})

    def test_what_is_refused_changes_nothing(self):
        for texts, kind in (({"up": "> stay", "Up": "> stay"}, NoName), ({"up": "> stay", "down": "stay"}, NoCall),
                            (dict.fromkeys(names_of(61), "> stay"), TooMany)):
            before = list(texts.items())
            self.refused(kind, Book, texts)
            self.assertEqual(list(texts.items()), before)


class Own(BookTest):
    def test_the_dict_handed_in_stays(self):
        texts = dict(TEXTS)
        book = Book(texts)
        book.call("up").clear()
        book.names().clear()
        self.assertEqual(list(texts.items()), list(TEXTS.items()))

    def test_the_dict_changed_behind_the_making(self):
        texts = dict(TEXTS)
        book = Book(texts)
        texts["up"] = "> turn about"
        texts["more"] = "> stay"
        del texts["down"]
        self.assertEqual(book.names(), sorted(TEXTS))
        self.assertEqual(book.call("up"), [((), (("ahead", 1),))])
        self.assertEqual(book.call("down"), [((), (("back", 1),))])
        self.refused(NoName, book.call, "more")
        texts.clear()
        self.assertEqual(book.names(), sorted(TEXTS))
        self.assertEqual(book.call("trade"), read_call(TEXTS["trade"]))

    def test_a_call_told_is_changed_and_asked_for_again(self):
        book = Book(TEXTS)
        for name, text in TEXTS.items():
            call = book.call(name)
            other = book.call(name)
            self.assertIsNot(call, other)
            call[0] = None
            call.append("more")
            self.assertEqual(other, read_call(text))
            self.assertEqual(book.call(name), read_call(text))
            other.clear()
            self.assertEqual(book.call(name), read_call(text))

    def test_the_names_told_are_changed_and_asked_for_again(self):
        book = Book(TEXTS)
        names = book.names()
        names.append("more")
        names[0] = "b"
        self.assertEqual(book.names(), sorted(TEXTS))
        self.refused(NoName, book.call, "more")
        self.refused(NoName, book.call, "b")

    def test_kinds(self):
        book = Book(TEXTS)
        self.assertIs(type(book.names()), list)
        self.assertIs(type(book.call("up")), list)
        self.assertIs(type(book.call("up")[0]), tuple)


if __name__ == "__main__":
    unittest.main()
