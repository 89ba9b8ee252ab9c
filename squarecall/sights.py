"""What a dancer sees: which tests hold, and the first rule of a call that does."""

from squarecall.floors import opposite, partner, spot_from, spot_of, who_at
from squarecall.turnings import turned_facing

DRIFTS = ("inward", "outward", "sideways")


def is_head(dancer):
    return dancer // 2 % 2 == 0


def is_left(dancer):
    return dancer % 2 == 0


def distance(spot):
    return max(abs(spot[0]), abs(spot[1]))


def drift(stand):
    before = distance(spot_of(stand))
    behind = distance(spot_from(stand, 1, 0))
    if behind == before:
        return "sideways"
    return "inward" if behind < before else "outward"


# Apart from sees, for pairs look so, too: they have neither partner nor opposite.
def looks(own, stands, who, what):
    if who is None:
        return what == "none"
    if what in ("none", "any"):
        return what == "any"
    return stands[who][2] == turned_facing(own[2], what)


def sees(floor, dancer, test):
    own = floor[dancer]
    what = test[3]
    who = who_at(floor, spot_from(own, test[1], test[2]))
    if what == "partner":
        return who == partner(dancer)
    if what == "opposite":
        return who == opposite(dancer)
    return looks(own, floor, who, what)


def is_such(dancer, word):
    if word in ("head", "side"):
        return is_head(dancer) == (word == "head")
    return is_left(dancer) == (word == "lefts")


def holds(floor, dancer, test):
    word = test[0]
    if word == "not":
        return not holds(floor, dancer, test[1])
    if word == "at":
        return sees(floor, dancer, test)
    if word == "inner":
        return distance(spot_of(floor[dancer])) <= test[1]
    if word in DRIFTS:
        return drift(floor[dancer]) == word
    return is_such(dancer, word)


def rule_for(floor, dancer, call):
    for place, rule in enumerate(call):
        if all([holds(floor, dancer, test) for test in rule[0]]):
            return place
    return None
