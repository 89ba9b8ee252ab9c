"""The desk: rows told to a book and a floor, each answered with a text."""

from squarecall.books import Book
from squarecall.errors import NoName, NoRow
from squarecall.figures import number_of
from squarecall.floors import DANCERS, HOME
from squarecall.halves import is_even
from squarecall.pairs import pairs_on
from squarecall.programs import read_program
from squarecall.reach import way_home
from squarecall.rounds import round_of
from squarecall.runs import last_floor, run
from squarecall.turnings import form

LONGEST_WAY = 12
MOST_ROWS = 2000


def read_number(word, least, most):
    number = number_of(word, least, most)
    if number is None:
        raise NoRow(f"no number from {least} to {most}: {word!r}")
    return number


def shown_numbers(numbers):
    return ",".join([str(number) for number in numbers])


def shown_all(rows):
    return " ".join([shown_numbers(row) for row in rows])


def yes_or_no(truth):
    return "yes" if truth else "no"


class Desk:
    def __init__(self):
        self.texts = {}
        self.book = Book({})
        self.floor = HOME
        # The floors ahead of each run or home that is not taken back.
        self.past = []

    def say(self, row):
        if not isinstance(row, str):
            raise NoRow("no text")
        parts = row.partition(" ")
        # What a blank sets off may be the text without signs; a row of one word has no blank.
        if parts[1] == "":
            return self.say_word(row)
        return self.say_more(parts[0], parts[2])

    def say_word(self, word):
        if word == "calls":
            return " ".join(self.book.names())
        if word == "home":
            return self.go_home()
        if word == "back":
            return self.go_back()
        if word == "floor":
            return shown_all(self.floor)
        if word == "even":
            return yes_or_no(is_even(self.floor))
        if word == "alike":
            return yes_or_no(form(self.floor) == form(HOME))
        if word == "pairs":
            return shown_all(pairs_on(self.floor))
        raise NoRow(f"no row: {word!r}")

    def say_more(self, word, more):
        if word == "call":
            return self.keep_call(more)
        if word == "run":
            return self.run_text(more)
        if word == "round":
            return self.round_text(more)
        if word == "where":
            return shown_numbers(self.floor[read_number(more, 0, DANCERS - 1)])
        if word == "way":
            return self.way_text(read_number(more, 0, LONGEST_WAY))
        raise NoRow(f"no row: {word!r} {more!r}")

    def keep_call(self, more):
        parts = more.partition(" ")
        name = parts[0]
        text = parts[2]
        if name == "" or parts[1] == "":
            raise NoRow("no name of some signs with a blank behind it")
        # A book of this call alone first: its own refusals come ahead of a 61st name's.
        Book({name: text})
        texts = dict(self.texts)
        texts[name] = text
        self.book = Book(texts)
        self.texts = texts
        return "ok"

    def run_text(self, text):
        floors = run(self.book, self.floor, read_program(self.book, text))
        self.past.append(self.floor)
        self.floor = last_floor(self.floor, floors)
        return str(len(floors))

    def round_text(self, text):
        told = round_of(self.book, self.floor, read_program(self.book, text))
        return " ".join([str(number) for number in told])

    def way_text(self, length):
        names = way_home(self.book, self.floor, self.book.names(), length, MOST_ROWS)
        return "none" if names is None else " ".join(names)

    def go_home(self):
        self.past.append(self.floor)
        self.floor = HOME
        return "ok"

    def go_back(self):
        if not self.past:
            raise NoName("no run and no home that is not taken back")
        self.floor = self.past.pop()
        return "ok"
