import itertools
import math
import unittest

from helping import FAR, HOUSES, NAMED_HOUSES, NO_HOUSES, Case, comes, ring, small_houses

from strollhouse.errors import NoHouse, NoRoom
from strollhouse.groups import closed, wheel


def closed_plainly(table):
    """All subsets of the rooms, held against the words of the document one by one."""
    ways = comes(table)
    rooms = range(len(table))
    subsets = [list(some) for count in range(1, len(table) + 1) for some in itertools.combinations(rooms, count)]
    return sorted(
        some for some in subsets
        if all(ways[one][other] == (other in some) for one in some for other in rooms)
    )


def wheel_plainly(table, room, most=80):
    found = 0
    here = {room}
    for steps in range(1, most + 1):
        here = {goal for one in here for goal, weight in enumerate(table[one]) if weight}
        if room in here:
            found = math.gcd(found, steps)
    return found


class Closed(Case):
    def test_named_houses(self):
        told = {
            "one room": [[0]],
            "two rooms by turns": [[0, 1]],
            "two rooms that lead to themselves alone": [[0], [1]],
            "eight rooms that lead to themselves alone": [[room] for room in range(8)],
            "one left for the other": [[1]],
            "one left for an earlier one": [[0]],
            "two left by turns for a third": [[2]],
            "a way of eight rooms": [[7]],
            "a way of eight rooms the other way": [[0]],
            "two groups told crosswise": [[0, 2], [1, 3]],
            "three groups, and rooms left for them": [[1, 2], [3], [6, 7]],
            "a ring of three": [[0, 1, 2]],
            "a ring of eight": [list(range(8))],
            "all doors alike": [list(range(8))],
        }
        for name, groups in told.items():
            with self.subTest(name):
                self.assertEqual(self.told(closed, NAMED_HOUSES[name]), groups)

    def test_each_house_against_all_subsets(self):
        for table in HOUSES:
            self.assertEqual(self.told(closed, table), closed_plainly(table), table)

    def test_all_small_houses_against_all_subsets(self):
        for rooms in (1, 2, 3):
            for table in small_houses(rooms, (0, 1)):
                self.assertEqual(closed(table), closed_plainly(table), table)

    def test_the_form(self):
        for table in HOUSES:
            groups = closed(table)
            self.assertIs(type(groups), list)
            self.assertGreaterEqual(len(groups), 1)
            self.assertEqual([group[0] for group in groups], sorted(group[0] for group in groups))
            for group in groups:
                self.assertIs(type(group), list)
                self.assertEqual(group, sorted(set(group)))
                for room in group:
                    self.number_told(room)

    def test_a_long_way_round(self):
        # The rooms are met in a falling order, so that no single walk over them in rising order is enough.
        table = [[int(other == (one - 1) % 8) for other in range(8)] for one in range(8)]
        self.assertEqual(closed(table), [list(range(8))])
        table[0] = [1] + [0] * 7
        self.assertEqual(closed(table), [[0]])

    def test_no_house(self):
        for name, table in NO_HOUSES.items():
            with self.subTest(name):
                self.refused(NoHouse, closed, table)


class Wheel(Case):
    def wheels(self, table):
        return [self.told(wheel, table, room) for room in range(len(table))]

    def test_named_houses(self):
        told = {
            "one room": [1],
            "two rooms by turns": [2, 2],
            "two rooms that lead to themselves alone": [1, 1],
            "eight rooms that lead to themselves alone": [1] * 8,
            "one left for the other": [0, 1],
            "one left for an earlier one": [1, 1],
            "two left by turns for a third": [2, 2, 1],
            "a way of eight rooms": [0] * 7 + [1],
            "a way of eight rooms the other way": [1] + [0] * 7,
            "two groups told crosswise": [1, 1, 1, 1, 1],
            "three groups, and rooms left for them": [1, 1, 1, 1, 2, 2, 2, 2],
            "a ring of eight both ways": [2] * 8,
            "all doors alike": [1] * 8,
        }
        for name, wheels in told.items():
            with self.subTest(name):
                self.assertEqual(self.wheels(NAMED_HOUSES[name]), wheels)

    def test_rings_of_each_length(self):
        for rooms in range(3, 9):
            self.assertEqual(self.wheels(ring(rooms)), [rooms] * rooms)

    def test_a_ring_with_a_shorter_way(self):
        for rooms, last in itertools.product(range(3, 9), range(7)):
            if last < rooms:
                table = ring(rooms)
                table[last][0] = 4
                self.assertEqual(self.wheels(table), [math.gcd(rooms, last + 1)] * rooms, (rooms, last))

    def test_a_loop_far_off(self):
        # From room 0 one is back in an odd number of steps no sooner than after 15.
        table = [[int(abs(one - other) == 1) for other in range(8)] for one in range(8)]
        self.assertEqual(self.wheels(table), [2] * 8)
        table[7][7] = 1
        self.assertEqual(self.wheels(table), [1] * 8)

    def test_ways_that_do_not_lead_back_do_not_count(self):
        # A ring of three that is left for a ring of two, and entered from a loop.
        table = [
            [1, 1, 0, 0, 0, 0], [0, 0, 1, 0, 0, 0], [0, 0, 0, 1, 0, 0], [0, 1, 0, 0, 1, 0],
            [0, 0, 0, 0, 0, 1], [0, 0, 0, 0, 1, 0],
        ]
        self.assertEqual(self.wheels(table), [1, 3, 3, 3, 2, 2])

    def test_each_house_against_many_steps(self):
        for table in HOUSES:
            wheels = self.wheels(table)
            for number in wheels:
                self.number_told(number)
            self.assertEqual(wheels, [wheel_plainly(table, room) for room in range(len(table))], table)

    def test_all_small_houses_against_many_steps(self):
        for rooms in (1, 2, 3):
            for table in small_houses(rooms, (0, 1)):
                for room in range(rooms):
                    self.assertEqual(wheel(table, room), wheel_plainly(table, room, 20), (table, room))

    def test_the_weights_do_not_matter_but_for_nought(self):
        for table in HOUSES:
            plain = [[int(weight > 0) for weight in row] for row in table]
            self.assertEqual(self.wheels(table), self.wheels(plain))

    def test_rooms_of_one_closed_group_have_one_wheel(self):
        for table in HOUSES:
            for group in closed(table):
                self.assertEqual(len({wheel(table, room) for room in group}), 1)
                self.assertGreaterEqual(wheel(table, group[0]), 1)

    def test_no_house(self):
        for name, table in NO_HOUSES.items():
            with self.subTest(name):
                for room in (0, -1, len(table), FAR):
                    self.refused(NoHouse, wheel, table, room)

    def test_no_room(self):
        for table in HOUSES:
            for room in (-1, -len(table), len(table), len(table) + 1, FAR, -FAR):
                self.refused(NoRoom, wheel, table, room)


if __name__ == "__main__":
    unittest.main()
