"""Floors and calls for the tests to walk through, the same ones at each run."""

import itertools
import random

from squarecall import errors
from squarecall.dances import danced
from squarecall.errors import FloorError
from squarecall.floors import HOME
from squarecall.turnings import form, turned

WHATS = ("none", "any", "same", "left", "about", "right", "partner", "opposite")
LONE_WORDS = ("head", "side", "lefts", "rights", "inward", "outward", "sideways")
GOINGS = ("ahead", "back", "left", "right")
SOMES = ("heads", "sides", "lefts", "rights")

REFUSALS = (
    errors.NotEven, errors.NoCall, errors.NoName, errors.NoProgram, errors.TooMany, errors.NoPairs, errors.NoRow,
    errors.Blind, errors.Out, errors.Meet, errors.Broken,
)


def others(kind):
    """All refusals but those of this class."""
    return tuple(other for other in REFUSALS if other is not kind)


def shown_refusal(error):
    """A refusal as a tuple: its class's name, and its fields."""
    fields = {"Blind": ("who",), "Out": ("who",), "Meet": ("one", "other"), "Broken": ("at", "why")}
    told = [getattr(error, field) for field in fields.get(type(error).__name__, ())]
    return (type(error).__name__, *[shown_refusal(part) if isinstance(part, FloorError) else part for part in told])


def answer_of(doing, *given):
    """What is told, or the refusal, shown."""
    try:
        return doing(*given)
    except FloorError as error:
        return shown_refusal(error)


def is_refusal(told):
    return isinstance(told, tuple) and isinstance(told[0], str)


def with_stand(floor, dancer, stand):
    return floor[:dancer] + (stand,) + floor[dancer + 1:]


def floor_with(stands):
    """A floor with these stands, a dict by dancers; the others far off, each facing north."""
    return tuple(stands.get(dancer, (-150 - dancer, 150, 0)) for dancer in range(8))


def some_floor(source, width=4):
    spots = [(x, y) for x in range(-width, width + 1) for y in range(-width, width + 1)]
    return tuple((x, y, source.randrange(4)) for x, y in source.sample(spots, 8))


def some_even_floor(source, width=4):
    spots = [(x, y) for x in range(1, width + 1) for y in range(-width, width + 1)]
    four = [(x, y, source.randrange(4)) for x, y in source.sample(spots, 4)]
    four = [stand if source.randrange(2) else opposite_stand(stand) for stand in four]
    return tuple(four) + tuple(opposite_stand(stand) for stand in four)


def opposite_stand(stand):
    x, y, facing = stand
    return (-x, -y, (facing + 2) % 4)


def some_test(source):
    kind = source.randrange(4)
    if kind == 0:
        test = (source.choice(LONE_WORDS),)
    elif kind == 1:
        test = ("inner", source.randrange(5))
    else:
        ahead, right = source.choice([(1, 0), (2, 0), (0, 2), (0, -1), (-3, 1), (2, -2), (-1, 0), (9, -9)])
        test = ("at", ahead, right, source.choice(WHATS))
    return ("not", test) if source.randrange(3) == 0 else test


def some_steps(source):
    if source.randrange(6) == 0:
        return (("stay",),)
    steps = []
    for place in range(source.randrange(1, 5)):
        if source.randrange(3) == 0:
            steps.append(("turn", source.choice(("left", "right", "about"))))
        else:
            steps.append((source.choice(GOINGS), source.randrange(1, 4)))
    return tuple(steps)


def some_call(source):
    rules = [(tuple(some_test(source) for place in range(source.randrange(1, 3))), some_steps(source))
             for rule in range(source.randrange(1, 5))]
    if source.randrange(4):
        rules[-1] = ((), rules[-1][1])
    return rules


def many(count=300):
    """Floors, even ones among them, near the bounds too, each with a call."""
    source = random.Random(20)
    told = [(HOME, some_call(source)) for place in range(count // 10)]
    for place in range(count):
        floor = some_even_floor(source) if place % 2 else some_floor(source)
        if place % 5 == 0:
            floor = tuple((x + 196, y - 196, facing) for x, y, facing in floor)
        told.append((floor, some_call(source)))
    return told


def pair_stands(middle):
    """The stands of the left and the right one of a pair, by its middle and its facing."""
    x, y, facing = middle
    east, north = ((1, 0), (0, 1), (-1, 0), (0, -1))[facing]
    return (x - east, y - north, facing), (x + east, y + north, facing)


def floor_of_pairs(pairs):
    """A floor of pairs, a dict from (left one, right one) to their middle, with its facing."""
    stands = {}
    for pair, middle in pairs.items():
        stands[pair[0]], stands[pair[1]] = pair_stands(middle)
    return tuple(stands[dancer] for dancer in range(8))


def some_paired_floor(source, width=4):
    """A floor of four pairs, no two of one middle, the dancers as it comes."""
    while True:
        dancers = source.sample(range(8), 8)
        middles = [(source.randint(-width, width), source.randint(-width, width), source.randrange(4))
                   for pair in range(4)]
        floor = floor_of_pairs({tuple(dancers[place * 2:place * 2 + 2]): middles[place] for place in range(4)})
        if len({stand[:2] for stand in floor}) == 8 and len({middle[:2] for middle in middles}) == 4:
            return floor


def moved(floor, east, north):
    return tuple((x + east, y + north, facing) for x, y, facing in floor)


def many_paired(count=300):
    """Floors of pairs, near the bounds too, each with a call; and some floors without pairs."""
    source = random.Random(19)
    told = [(HOME, some_call(source)) for place in range(count // 10)]
    for place in range(count):
        floor = some_floor(source) if place % 9 == 0 else some_paired_floor(source)
        if place % 5 == 0:
            floor = moved(floor, source.choice((0, 195, -195)), source.choice((195, -195)))
        told.append((floor, some_call(source)))
    return told


def some_items(source, names, depth=0):
    """A row of items of a program, brackets within brackets."""
    items = []
    for place in range(source.randrange(1, 4)):
        kind = source.randrange(9) if depth < 4 else 0
        if kind < 5:
            items.append(("call", source.choice(names)))
            continue
        inside = some_items(source, names, depth + 1)
        if kind == 5:
            items.append(("times", source.randrange(1, 4), inside))
        elif kind == 6:
            items.append(("some", source.choice(SOMES), inside))
        elif kind == 7:
            items.append(("inner", source.choice((2, 3, 4, 5, 6, 9, 200)), inside))
        else:
            items.append(("couples", inside))
    return items


def counting_texts(capped, edge=10):
    """Five calls, each of which brings some dancers a step farther out.

    By nine of them 2002 floors are come to from home; fewer by one for each of the calls, from the
    first one on, that is capped: whoever is beyond the edge stays.
    """
    whom = {"a": "head and lefts", "b": "side and lefts", "c": "head and rights", "d": "side and rights"}
    texts = {name: f"{tests} > back 1 ; > stay" for name, tests in whom.items()}
    for name in "abcd"[:capped]:
        texts[name] = f"{whom[name]} and inner {edge} > back 1 ; > stay"
    return {**texts, "e": "head and rights > right 1 ; > stay"}


def rows_by_all_ways(book, floor, names, length):
    """The rows come to, by going through all rows of names, the shorter ones first."""
    rows = [(form(floor), 0, None, None)]
    places = {form(floor): 0}
    for depth in range(1, length + 1):
        for way in itertools.product(names, repeat=depth):
            ahead = floor_by(book, floor, way[:-1])
            behind = None if ahead is None else floor_by(book, ahead, way[-1:])
            if behind is not None and form(behind) not in places:
                places[form(behind)] = len(rows)
                rows.append((form(behind), depth, places[form(ahead)], way[-1]))
    return rows


def floor_by(book, floor, way):
    """The floor behind these calls, danced by all, or None."""
    for name in way:
        told = answer_of(danced, floor, book.call(name))
        if is_refusal(told):
            return None
        floor = told
    return floor


def way_by_all_ways(book, floor, names, length):
    """The way home, by going through all rows of names, the shorter ones first."""
    for depth in range(length + 1):
        for way in itertools.product(names, repeat=depth):
            behind = floor_by(book, floor, way)
            if behind is not None and behind in [turned(HOME, quarters) for quarters in range(4)]:
                return list(way)
    return None
