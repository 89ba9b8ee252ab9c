"""Floors and calls for the tests to walk through, the same ones at each run."""

import random

from squarecall.floors import HOME

WHATS = ("none", "any", "same", "left", "about", "right", "partner", "opposite")
LONE_WORDS = ("head", "side", "lefts", "rights", "inward", "outward", "sideways")
GOINGS = ("ahead", "back", "left", "right")


def with_stand(floor, dancer, stand):
    return floor[:dancer] + (stand,) + floor[dancer + 1:]


def floor_with(stands):
    """A floor with these stands, a dict by dancers; the others far off, each facing north."""
    return tuple(stands.get(dancer, (-150 - dancer, 150, 0)) for dancer in range(8))


def some_floor(source, width=4):
    spots = [(x, y) for x in range(-width, width + 1) for y in range(-width, width + 1)]
    return tuple((x, y, source.randrange(4)) for x, y in source.sample(spots, 8))


def some_even_floor(source, width=4):
    spots = [(x, y) for x in range(1, width + 1) for y in range(-width, width + 1)]
    four = [(x, y, source.randrange(4)) for x, y in source.sample(spots, 4)]
    four = [stand if source.randrange(2) else opposite_stand(stand) for stand in four]
    return tuple(four) + tuple(opposite_stand(stand) for stand in four)


def opposite_stand(stand):
    x, y, facing = stand
    return (-x, -y, (facing + 2) % 4)


def some_test(source):
    kind = source.randrange(4)
    if kind == 0:
        test = (source.choice(LONE_WORDS),)
    elif kind == 1:
        test = ("inner", source.randrange(5))
    else:
        ahead, right = source.choice([(1, 0), (2, 0), (0, 2), (0, -1), (-3, 1), (2, -2), (-1, 0), (9, -9)])
        test = ("at", ahead, right, source.choice(WHATS))
    return ("not", test) if source.randrange(3) == 0 else test


def some_steps(source):
    if source.randrange(6) == 0:
        return (("stay",),)
    steps = []
    for place in range(source.randrange(1, 5)):
        if source.randrange(3) == 0:
            steps.append(("turn", source.choice(("left", "right", "about"))))
        else:
            steps.append((source.choice(GOINGS), source.randrange(1, 4)))
    return tuple(steps)


def some_call(source):
    rules = [(tuple(some_test(source) for place in range(source.randrange(1, 3))), some_steps(source))
             for rule in range(source.randrange(1, 5))]
    if source.randrange(4):
        rules[-1] = ((), rules[-1][1])
    return rules


def many(count=300):
    """Floors, even ones among them, near the bounds too, each with a call."""
    source = random.Random(20)
    told = [(HOME, some_call(source)) for place in range(count // 10)]
    for place in range(count):
        floor = some_even_floor(source) if place % 2 else some_floor(source)
        if place % 5 == 0:
            floor = tuple((x + 196, y - 196, facing) for x, y, facing in floor)
        told.append((floor, some_call(source)))
    return told
