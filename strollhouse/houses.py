"""Houses, the step from room to room, and the shares after some steps."""

from strollhouse.errors import NoCount, NoHouse, NoRoom, NoShares
from strollhouse.parts import come_to_one, is_part, joint_bottom, joint_multiple, lowest, parts_over, tops_over

MOST_ROOMS = 8
MOST_WEIGHT = 9
MOST_STEPS = 40


def is_row(row, rooms):
    return len(row) == rooms and all([0 <= weight <= MOST_WEIGHT for weight in row]) and sum(row) > 0


def is_house(table):
    rooms = len(table)
    return 1 <= rooms <= MOST_ROOMS and all([is_row(row, rooms) for row in table])


# The words of a refusal hold no number handed in: Python may fail to write a very long one.
def need_house(table):
    if not is_house(table):
        raise NoHouse("this is not a house")


def need_room(table, room):
    if not 0 <= room < len(table):
        raise NoRoom("the house has no room of this number")


def need_steps(steps):
    if not 0 <= steps <= MOST_STEPS:
        raise NoCount("this is not a number of steps that is told of")


def are_shares(table, pairs):
    return len(pairs) == len(table) and all([is_part(pair) for pair in pairs]) and come_to_one(pairs)


def need_shares(table, pairs):
    if not are_shares(table, pairs):
        raise NoShares("these are not shares of the house")


def step(table, one, other):
    need_house(table)
    need_room(table, one)
    need_room(table, other)
    return lowest(table[one][other], sum(table[one]))


# All parts of all steps can be written over this one bottom, so that a walk
# reckons with whole tops and brings only its end to lowest terms.
def step_bottom(table):
    return joint_multiple([sum(row) for row in table])


def arriving(table, loads, room):
    return sum([load * row[room] for load, row in zip(loads, table)])


def tops_after_step(table, tops):
    bottom = step_bottom(table)
    loads = [top * (bottom // sum(row)) for top, row in zip(tops, table)]
    return [arriving(table, loads, room) for room in range(len(table))]


def walked(table, shares):
    need_house(table)
    need_shares(table, shares)
    bottom = joint_bottom(shares)
    tops = tops_after_step(table, tops_over(shares, bottom))
    return parts_over(tops, bottom * step_bottom(table))


def after(table, start, steps):
    need_house(table)
    need_room(table, start)
    need_steps(steps)
    tops = [1 if room == start else 0 for room in range(len(table))]
    bottom = 1
    for done in range(steps):
        tops = tops_after_step(table, tops)
        bottom = bottom * step_bottom(table)
    return parts_over(tops, bottom)
