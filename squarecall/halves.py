"""Even floors, and the halves that tell them whole."""

from squarecall.errors import NotEven
from squarecall.floors import DANCERS, floor_of, opposite
from squarecall.turnings import turned

HALF_TURN = 2


def is_even(floor):
    about = turned(floor, HALF_TURN)
    return all([about[dancer] == floor[opposite(dancer)] for dancer in range(DANCERS)])


def half(floor):
    if not is_even(floor):
        raise NotEven("the floor turned about is another one, dancer for opposite dancer")
    return floor[:DANCERS // 2]


def whole(four):
    return floor_of(four + turned(four, HALF_TURN))
