"""Couples as one: the pairs on a floor, and a call danced by them."""

from squarecall.dances import kept_in, way_of
from squarecall.errors import Blind, NoPairs
from squarecall.floors import DANCERS, first_meeting, floor_of, spot_from, who_at
from squarecall.sights import DRIFTS, drift, holds, looks


def right_hand(floor, dancer):
    own = floor[dancer]
    who = who_at(floor, spot_from(own, 0, 2))
    return who if who is not None and floor[who][2] == own[2] else None


def row_from(hands, first):
    row = [first]
    while hands[row[-1]] is not None:
        row.append(hands[row[-1]])
    return row


def pairs_of_row(row):
    if len(row) % 2 != 0:
        raise NoPairs(f"an odd row: {row!r}")
    return [(row[place], row[place + 1]) for place in range(0, len(row), 2)]


def beside(stand, right):
    spot = spot_from(stand, 0, right)
    return (spot[0], spot[1], stand[2])


def middles_of(floor, pairs):
    return [beside(floor[pair[0]], 1) for pair in pairs]


def pairs_on(floor):
    hands = [right_hand(floor, dancer) for dancer in range(DANCERS)]
    pairs = []
    for dancer in range(DANCERS):
        if dancer not in hands:
            pairs.extend(pairs_of_row(row_from(hands, dancer)))
    if first_meeting(middles_of(floor, pairs)) is not None:
        raise NoPairs("two pairs of one middle")
    return sorted(pairs)


# A floor as its pairs see it; a pair is told by its place among them.
class PairedFloor:
    def __init__(self, floor):
        self.floor = floor
        self.pairs = pairs_on(floor)
        self.middles = middles_of(floor, self.pairs)

    def pair_sees(self, place, test):
        if test[3] in ("partner", "opposite"):
            return False
        own = self.middles[place]
        who = who_at(self.middles, spot_from(own, test[1], 2 * test[2]))
        return looks(own, self.middles, who, test[3])

    def pair_holds(self, place, test):
        if test[0] == "not":
            return not self.pair_holds(place, test[1])
        if test[0] == "at":
            return self.pair_sees(place, test)
        if test[0] in DRIFTS:
            return drift(self.middles[place]) == test[0]
        return all([holds(self.floor, dancer, test) for dancer in self.pairs[place]])

    def pair_steps(self, place, call):
        for rule in call:
            if all([self.pair_holds(place, test) for test in rule[0]]):
                return rule[1]
        raise Blind(self.pairs[place][0])


def widened(step):
    return (step[0], 2 * step[1]) if step[0] in ("left", "right") else step


def danced_by_pairs(floor, call):
    paired = PairedFloor(floor)
    # All steps are told ahead of the first way: any Blind comes ahead of each Out.
    steps = [paired.pair_steps(place, call) for place in range(len(paired.pairs))]
    told = [[] for dancer in range(DANCERS)]
    for place, pair in enumerate(paired.pairs):
        # Whatever the steps, both stay beside their middle: in a turn they go round it.
        way = way_of(paired.middles[place], [widened(step) for step in steps[place]])
        told[pair[0]] = [beside(middle, -1) for middle in way]
        told[pair[1]] = [beside(middle, 1) for middle in way]
    return floor_of([way[-1] for way in kept_in(told)])
