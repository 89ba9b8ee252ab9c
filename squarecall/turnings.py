"""Floors turned about (0, 0), and the form that tells which floors are alike."""

QUARTERS = 4

# How many quarters to the left each word tells.
QUARTERS_OF = {"same": 0, "left": 1, "about": 2, "right": 3}


def turned_facing(facing, way):
    return (facing + QUARTERS_OF[way]) % QUARTERS


def turned_stand(stand):
    return (-stand[1], stand[0], (stand[2] + 1) % QUARTERS)


def turned(floor, quarters):
    result = floor
    # Only what is left over full turns counts, so that a large number costs no more than a small one.
    for quarter in range(quarters % QUARTERS):
        result = tuple([turned_stand(stand) for stand in result])
    return result


def form(floor):
    return min([turned(floor, quarters) for quarters in range(QUARTERS)])
