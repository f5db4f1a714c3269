import itertools
import math
import unittest
from fractions import Fraction

from helping import (
    HOUSES, NAMED_HOUSES, NO_HOUSES, Case, is_one_group, narrow, ring, scattered, small_houses, solved, wide,
)

from strollhouse.backward import backward, is_even, uneven_round
from strollhouse.errors import NoHouse, Parted
from strollhouse.houses import step

FUNCTIONS = (backward, is_even, uneven_round)


def even_house(numbers, rooms, doors):
    """Weights that are the same both ways, but for a factor for each row: such a walk is even."""
    table = [[0] * rooms for room in range(rooms)]
    for one, other in itertools.combinations_with_replacement(range(rooms), 2):
        if other == one + 1 or next(numbers) % 10 < doors:
            table[one][other] = table[other][one] = 1 + next(numbers) % 3
    return [[weight * factor for weight in row] for row, factor in zip(table, [1 + room % 3 for room in range(rooms)])]


def even_houses():
    numbers = scattered(10 ** 6)
    return [even_house(numbers, rooms, doors) for rooms, doors in itertools.product(range(2, 9), (0, 2, 5, 9))]


def near_even_houses():
    """Even but for one weight, at another place each time."""
    found = []
    for place, table in enumerate(even_houses()):
        one, other = place % len(table), (5 * place + 1) % len(table)
        if table[one][other]:
            table[one][other] = table[one][other] % 9 + 1
            found.append(table)
    return found


WHOLE = [table for table in HOUSES + even_houses() + near_even_houses() if is_one_group(table)]
# Of three rooms every seventh house is enough: all of them take long.
SMALL = [
    table for table in small_houses(1, (0, 3)) + small_houses(2, (0, 1, 2)) + small_houses(3, (0, 1, 2))[::7]
    if is_one_group(table)
]
PARTED = [table for table in HOUSES if not is_one_group(table)]


def shares_plainly(table):
    """The shares that a step leaves as they are; one of these equations follows from the others."""
    rooms = range(len(table))
    rows = [[Fraction(table[one][other], sum(table[one])) - int(one == other) for one in rooms] for other in rooms]
    rows[0] = [1] * len(table)
    return solved(rows, [1] + [0] * (len(table) - 1))


def backward_plainly(table):
    shares = shares_plainly(table)
    rooms = range(len(table))
    return [
        [narrow(shares[other] * Fraction(table[other][room], sum(table[other])) / shares[room]) for other in rooms]
        for room in rooms
    ]


def products(table, rooms):
    steps = list(zip(rooms, rooms[1:] + rooms[:1]))
    return (math.prod(table[one][other] for one, other in steps), math.prod(table[other][one] for one, other in steps))


def uneven_rounds_plainly(table):
    rooms = range(len(table))
    lists = [list(some) for count in rooms[2:] for some in itertools.permutations(rooms, count + 1)]
    return [rooms for rooms in lists if products(table, rooms)[0] > 0 and len(set(products(table, rooms))) == 2]


class Backward(Case):
    def test_some_houses(self):
        self.assertEqual(backward([[5]]), [[(1, 1)]])
        self.assertEqual(backward([[0, 1], [1, 0]]), [[(0, 1), (1, 1)], [(1, 1), (0, 1)]])
        self.assertEqual(backward([[0, 1], [3, 1]]), [[(0, 1), (1, 1)], [(3, 4), (1, 4)]])
        self.assertEqual(backward(ring(3)), [
            [(0, 1), (0, 1), (1, 1)], [(1, 1), (0, 1), (0, 1)], [(0, 1), (1, 1), (0, 1)],
        ])

    def test_shares_that_are_unlike(self):
        # The shares in the long run are 6/13, 5/13 and 2/13.
        self.assertEqual(backward([[0, 2, 1], [1, 0, 0], [1, 1, 0]]), [
            [(0, 1), (5, 6), (1, 6)], [(4, 5), (0, 1), (1, 5)], [(1, 1), (0, 1), (0, 1)],
        ])

    def test_each_house_against_plain_fractions(self):
        for table in WHOLE + SMALL:
            answer = self.told(backward, table)
            self.assertIs(type(answer), list)
            self.assertEqual(len(answer), len(table))
            for row in answer:
                self.parts_told(row, len(table))
                self.assertEqual(sum(wide(part) for part in row), 1)
            self.assertEqual(answer, backward_plainly(table), table)

    def test_ahead_of_a_room_was_one_that_leads_to_it(self):
        for table in WHOLE:
            for room, row in enumerate(backward(table)):
                for other, part in enumerate(row):
                    self.assertEqual(part[0] > 0, table[other][room] > 0)


class Even(Case):
    def test_houses_of_one_and_two_rooms_are_even(self):
        for table in small_houses(1, range(10)) + small_houses(2, (0, 1, 4, 9)):
            if is_one_group(table):
                self.assertIs(self.told(is_even, table), True, table)
                self.assertIsNone(self.told(uneven_round, table), table)

    def test_even_houses(self):
        for table in even_houses() + [NAMED_HOUSES["a ring of eight both ways"], NAMED_HOUSES["all doors alike"]]:
            self.assertIs(self.told(is_even, table), True, table)
            self.assertIsNone(self.told(uneven_round, table), table)

    def test_a_round_that_is_even_though_no_step_is_alike(self):
        table = [[0, 2, 3], [4, 0, 6], [6, 6, 0]]
        self.assertEqual(products(table, [0, 1, 2]), (72, 72))
        self.assertIs(is_even(table), True)
        self.assertIsNone(uneven_round(table))

    def test_rings_one_way(self):
        for rooms in range(3, 9):
            self.assertIs(self.told(is_even, ring(rooms)), False)
            self.held_round(ring(rooms), uneven_round(ring(rooms)))

    def test_rings_harder_one_way(self):
        for rooms in range(3, 9):
            self.assertIs(self.told(is_even, ring(rooms, 3)), False)
            self.held_round(ring(rooms, 3), uneven_round(ring(rooms, 3)))

    def test_one_door_without_a_way_back(self):
        for rooms, one, other in itertools.product((3, 5, 8), range(8), range(8)):
            if one < rooms and other < rooms and one != other:
                table = [[1] * rooms for room in range(rooms)]
                table[one][other] = 0
                self.assertIs(is_even(table), False)
                self.held_round(table, uneven_round(table))

    def test_one_round_alone_is_uneven(self):
        # Two rounds share room 3 alone, and the one that comes later is uneven.
        table = [[0] * 7 for room in range(7)]
        for one, other in ((0, 1), (1, 2), (2, 3), (3, 0), (3, 4), (4, 5), (5, 6), (6, 3)):
            table[one][other] = table[other][one] = 2
        self.assertIs(is_even(table), True)
        self.assertIsNone(uneven_round(table))
        table[6][5] = 3
        self.assertIs(is_even(table), False)
        self.assertEqual(sorted(self.told(uneven_round, table)), [3, 4, 5, 6])

    def test_a_door_to_the_room_itself_does_not_matter(self):
        for table in WHOLE:
            other = [[5 if one == goal else weight for goal, weight in enumerate(row)] for one, row in enumerate(table)]
            self.assertEqual(is_even(table), is_even(other))

    def test_each_house(self):
        seen = set()
        for table in WHOLE + SMALL:
            backward_as_forward = backward_plainly(table) == [
                [step(table, room, other) for other in range(len(table))] for room in range(len(table))
            ]
            self.assertIs(self.told(is_even, table), backward_as_forward, table)
            answer = self.told(uneven_round, table)
            self.assertEqual(answer is None, backward_as_forward, table)
            if answer is not None:
                self.held_round(table, answer)
            seen.add((len(table), backward_as_forward))
        self.assertEqual(seen, set(itertools.product(range(3, 9), (True, False))) | {(1, True), (2, True)})

    def test_against_all_rounds_one_by_one(self):
        for table in SMALL + [table for table in WHOLE if len(table) <= 6]:
            rounds = uneven_rounds_plainly(table)
            answer = uneven_round(table)
            self.assertIs(is_even(table), rounds == [], table)
            if rounds:
                self.assertIn(answer, rounds)
            else:
                self.assertIsNone(answer)

    def held_round(self, table, answer):
        self.assertIs(type(answer), list)
        for room in answer:
            self.number_told(room)
            self.assertIn(room, range(len(table)))
        self.assertGreaterEqual(len(answer), 3)
        self.assertEqual(len(set(answer)), len(answer))
        for one, other in zip(answer, answer[1:] + answer[:1]):
            self.assertGreater(table[one][other], 0)
        forward, back = products(table, answer)
        self.assertNotEqual(forward, back)


class Refusals(Case):
    def test_no_house(self):
        for name, table in NO_HOUSES.items():
            with self.subTest(name):
                for function in FUNCTIONS:
                    self.refused(NoHouse, function, table)

    def test_parted(self):
        self.assertGreater(len(PARTED), 20)
        for function, table in itertools.product(FUNCTIONS, PARTED):
            self.refused(Parted, function, table)

    def test_one_closed_group_without_all_rooms_is_parted(self):
        for function in FUNCTIONS:
            self.refused(Parted, function, [[0, 4], [0, 1]])
            self.refused(Parted, function, [[2, 0], [3, 5]])
            self.refused(Parted, function, NAMED_HOUSES["a way of eight rooms"])

    def test_several_closed_groups_are_parted(self):
        for function in FUNCTIONS:
            self.refused(Parted, function, [[1, 0], [0, 9]])
            self.refused(Parted, function, NAMED_HOUSES["three groups, and rooms left for them"])

    def test_a_house_of_one_group_is_not_refused(self):
        for function, table in itertools.product(FUNCTIONS, WHOLE):
            self.told(function, table)


if __name__ == "__main__":
    unittest.main()
