"""The shares in the long run, the mean of the steps back, and the trees of a room."""

from strollhouse.errors import NotBack
from strollhouse.groups import closed
from strollhouse.houses import need_house, need_room
from strollhouse.parts import parts_over


def balance_row(table, room, others):
    row = table[room]
    return [(sum(row) if other == room else 0) - row[other] for other in others]


# The determinant of these rows is the sum of the worths of all trees to the root.
def balance_rows(table, root):
    others = [room for room in range(len(table)) if room != root]
    return [balance_row(table, room, others) for room in others]


# The division leaves no rest: it keeps the numbers whole and short.
def cleared(row, first, divisor):
    return [(row[place] * first[0] - row[0] * first[place]) // divisor for place in range(1, len(row))]


# In balance rows nothing but the number at a row's own place is above nought,
# and no row sums to less than nought; clearing keeps that so. Where a row's own
# number is nought, the whole row is, and no other row need take its place.
def determinant(rows):
    pivot = 1
    while len(rows) > 0:
        first = rows[0]
        if first[0] == 0:
            return 0
        divisor = pivot
        pivot = first[0]
        rows = [cleared(row, first, divisor) for row in rows[1:]]
    return pivot


def trees(table, root):
    need_house(table)
    need_room(table, root)
    return determinant(balance_rows(table, root))


def picked(row, group):
    return [row[room] for room in group]


# No door leads out of a closed group, so its rooms are a house of their own.
def group_shares(table, group):
    house = [picked(table[room], group) for room in group]
    tops = [trees(house, place) * sum(row) for place, row in enumerate(house)]
    found = dict(zip(group, parts_over(tops, sum(tops))))
    return [found.get(room, (0, 1)) for room in range(len(table))]


def long_run(table):
    need_house(table)
    return [group_shares(table, group) for group in closed(table)]


def back_mean(table, room):
    need_house(table)
    need_room(table, room)
    for group in closed(table):
        if room in group:
            share = group_shares(table, group)[room]
            return (share[1], share[0])
    raise NotBack("this room is left for good")
