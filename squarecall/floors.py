"""Spots, dancers, stands and floors."""

from squarecall.errors import Meet

HOME = (
    (-1, -3, 0),
    (1, -3, 0),
    (3, -1, 1),
    (3, 1, 1),
    (1, 3, 2),
    (-1, 3, 2),
    (-3, 1, 3),
    (-3, -1, 3),
)

DANCERS = 8
FARTHEST = 200

# How far one step ahead goes to the east and to the north, facing by facing.
STEPS = ((0, 1), (-1, 0), (0, -1), (1, 0))


def is_whole(thing):
    # Python counts True and False as ints; the document does not.
    return isinstance(thing, int) and not isinstance(thing, bool)


def is_place(thing):
    return is_whole(thing) and -FARTHEST <= thing <= FARTHEST


def is_facing(thing):
    return is_whole(thing) and 0 <= thing < len(STEPS)


def is_stand(thing):
    if not isinstance(thing, tuple) or len(thing) != 3:
        return False
    return is_place(thing[0]) and is_place(thing[1]) and is_facing(thing[2])


def spot_of(stand):
    return (stand[0], stand[1])


def is_floor(thing):
    if not isinstance(thing, tuple) or len(thing) != DANCERS:
        return False
    if not all([is_stand(stand) for stand in thing]):
        return False
    return len(set([spot_of(stand) for stand in thing])) == DANCERS


def first_meeting(stands):
    for one in range(len(stands)):
        for other in range(one + 1, len(stands)):
            if spot_of(stands[one]) == spot_of(stands[other]):
                return (one, other)
    return None


def floor_of(stands):
    meeting = first_meeting(stands)
    if meeting is not None:
        raise Meet(meeting[0], meeting[1])
    return tuple(stands)


def spot_from(stand, ahead, right):
    step = STEPS[stand[2]]
    # Who goes (east, north) ahead has (north, -east) to the right.
    east = step[0] * ahead + step[1] * right
    north = step[1] * ahead - step[0] * right
    return (stand[0] + east, stand[1] + north)


def who_at(floor, spot):
    for dancer, stand in enumerate(floor):
        if spot_of(stand) == spot:
            return dancer
    return None


def partner(dancer):
    return dancer + 1 if dancer % 2 == 0 else dancer - 1


def opposite(dancer):
    return (dancer + DANCERS // 2) % DANCERS
