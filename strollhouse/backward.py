"""The walk looked at backward, and whether it goes backward as forward."""

from strollhouse.errors import Parted
from strollhouse.groups import closed
from strollhouse.houses import need_house, step
from strollhouse.long import long_run
from strollhouse.parts import lowest


def need_one_group(table):
    need_house(table)
    if closed(table) != [list(range(len(table)))]:
        raise Parted("the house is not one closed group")


def came_from(table, shares, room, other):
    going = step(table, other, room)
    top = shares[other][0] * going[0] * shares[room][1]
    bottom = shares[other][1] * going[1] * shares[room][0]
    return lowest(top, bottom)


def backward_row(table, shares, room):
    return [came_from(table, shares, room, other) for other in range(len(table))]


def backward(table):
    need_one_group(table)
    shares = long_run(table)[0]
    return [backward_row(table, shares, room) for room in range(len(table))]


def forward_row(table, room):
    return [step(table, room, other) for other in range(len(table))]


def is_even(table):
    need_one_group(table)
    return backward(table) == [forward_row(table, room) for room in range(len(table))]


def round_product(table, rooms):
    product = 1
    for place, room in enumerate(rooms):
        product = product * table[rooms[place - 1]][room]
    return product


# A product of nought forward means that a door is missing, and so no round.
def is_uneven(table, rooms):
    forward = round_product(table, rooms)
    return len(rooms) >= 3 and forward > 0 and forward != round_product(table, list(reversed(rooms)))


# Each round is met from its lowest room alone: from the others it is the same.
def uneven_from(table, rooms):
    if is_uneven(table, rooms):
        return rooms
    for room in range(rooms[0] + 1, len(table)):
        if room not in rooms and table[rooms[-1]][room] > 0:
            found = uneven_from(table, rooms + [room])
            if found is not None:
                return found
    return None


def uneven_round(table):
    need_one_group(table)
    for start in range(len(table)):
        found = uneven_from(table, [start])
        if found is not None:
            return found
    return None
