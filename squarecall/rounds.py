"""Programs that do the same or part, and the rounds that a program comes to."""

from squarecall.errors import Broken, TooMany
from squarecall.floors import HOME
from squarecall.reach import reached
from squarecall.runs import last_floor, run

MOST_RUNS = 60


def end_of(book, floor, items):
    try:
        return last_floor(floor, run(book, floor, items))
    except (Broken, TooMany):
        # No floor is None, and any two refusals are held alike.
        return None


def parted(book, names, length, one, other):
    for row in reached(book, HOME, names, length):
        if end_of(book, row[0], one) != end_of(book, row[0], other):
            return row[0]
    return None


def run_behind(book, floor, items, count):
    try:
        return run(book, floor, items)
    except Broken as refusal:
        raise Broken(count + refusal.at, refusal.why) from refusal


def round_of(book, floor, items):
    ends = [floor]
    count = 0
    for again in range(MOST_RUNS):
        floors = run_behind(book, ends[-1], items, count)
        count += len(floors)
        end = last_floor(ends[-1], floors)
        if end in ends:
            ahead = ends.index(end)
            return (ahead, len(ends) - ahead)
        ends.append(end)
    raise TooMany(f"no floor came again behind {MOST_RUNS} runs")
