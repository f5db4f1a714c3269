"""The rooms that are come back to for ever, and the wheels of rooms."""

from strollhouse.houses import need_house, need_room
from strollhouse.parts import common


def is_led_to(table, rooms, goal):
    return any([table[room][goal] > 0 for room in rooms])


def led_to(table, rooms):
    return [goal for goal in range(len(table)) if is_led_to(table, rooms, goal)]


# A way that meets no room twice has fewer steps than there are rooms, so the
# walk through the house may end after as many.
def come_to(table, start):
    rooms = [start]
    for done in range(len(table)):
        rooms = sorted(set(rooms + led_to(table, rooms)))
    return rooms


def is_closed(table, group):
    return all([come_to(table, room) == group for room in group])


# From a room of a closed group one comes to just that group, so each of them is
# among these lists, and once if it is asked for at its first room alone.
def closed(table):
    need_house(table)
    lists = [come_to(table, room) for room in range(len(table))]
    return [group for room, group in enumerate(lists) if group[0] == room and is_closed(table, group)]


# What goes into all ways back goes into the length of each round that can be met
# on one of them. The way to such a round, once round it, and the way back are
# shorter than three times the number of rooms, so longer ways tell nothing more.
def wheel(table, room):
    need_house(table)
    need_room(table, room)
    found = 0
    rooms = [room]
    for steps in range(1, 3 * len(table) + 1):
        rooms = led_to(table, rooms)
        if room in rooms:
            found = common(found, steps)
    return found
