"""Programs run from a floor, call by call."""

from squarecall.dances import danced
from squarecall.errors import Blind, Broken, Meet, NoPairs, Out, TooMany
from squarecall.floors import DANCERS
from squarecall.pairs import danced_by_pairs
from squarecall.sights import holds

MOST_DANCED = 400

# What a dancer is asked who would dance in such a bracket.
TESTS = {"heads": ("head",), "sides": ("side",), "lefts": ("lefts",), "rights": ("rights",)}


def floor_behind(floor, call, some, paired):
    if not paired:
        return danced(floor, call, some)
    if len(some) < DANCERS:
        raise NoPairs("not all dancers would dance")
    return danced_by_pairs(floor, call)


# The floors of a run: the one from which it is run, and those behind each call.
class Run:
    def __init__(self, book, floor):
        self.book = book
        self.floors = [floor]

    def dance(self, name, some, paired):
        count = len(self.floors) - 1
        if count == MOST_DANCED:
            raise TooMany(f"more than {MOST_DANCED} calls")
        call = self.book.call(name)
        try:
            self.floors.append(floor_behind(self.floors[-1], call, some, paired))
        except (Blind, Out, Meet, NoPairs) as refusal:
            raise Broken(count, refusal) from refusal

    def those_left(self, some, item):
        test = item[:2] if item[0] == "inner" else TESTS[item[1]]
        return [dancer for dancer in some if holds(self.floors[-1], dancer, test)]

    def go_on(self, items, some, paired):
        for item in items:
            if item[0] == "call":
                self.dance(item[1], some, paired)
            elif item[0] == "times":
                for again in range(item[1]):
                    self.go_on(item[2], some, paired)
            elif item[0] == "couples":
                self.go_on(item[1], some, True)
            else:
                self.go_on(item[2], self.those_left(some, item), paired)


def run(book, floor, items):
    course = Run(book, floor)
    course.go_on(items, list(range(DANCERS)), False)
    return course.floors[1:]


def last_floor(floor, floors):
    # A run without calls ends where it began.
    return floors[-1] if floors else floor
