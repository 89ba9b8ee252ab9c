"""One call danced on a floor: each dancer's way, and the floor behind it."""

from squarecall.errors import Blind, Out
from squarecall.floors import DANCERS, floor_of, is_stand, spot_from
from squarecall.sights import rule_for
from squarecall.turnings import turned_facing

# How far ahead and how far to the right a step of 1 goes.
GOINGS = {"ahead": (1, 0), "back": (-1, 0), "left": (0, -1), "right": (0, 1)}


def steps_of(floor, dancer, call, some):
    if some is not None and dancer not in some:
        return ()
    place = rule_for(floor, dancer, call)
    if place is None:
        raise Blind(dancer)
    return call[place][1]


def stand_behind(stand, step):
    if step[0] == "turn":
        return (stand[0], stand[1], turned_facing(stand[2], step[1]))
    going = GOINGS[step[0]]
    spot = spot_from(stand, going[0] * step[1], going[1] * step[1])
    return (spot[0], spot[1], stand[2])


def way_of(stand, steps):
    way = [stand]
    for step in steps:
        if step[0] != "stay":
            way.append(stand_behind(way[-1], step))
    return way


def kept_in(told):
    for dancer, way in enumerate(told):
        # A way begins where its dancer stands: only where the steps come to is looked at.
        if not all([is_stand(stand) for stand in way[1:]]):
            raise Out(dancer)
    return told


def ways(floor, call, some=None):
    # All steps are told ahead of the first way: any Blind comes ahead of each Out.
    steps = [steps_of(floor, dancer, call, some) for dancer in range(DANCERS)]
    return kept_in([way_of(floor[dancer], steps[dancer]) for dancer in range(DANCERS)])


def danced(floor, call, some=None):
    return floor_of([way[-1] for way in ways(floor, call, some)])
