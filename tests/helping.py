"""What several of the tests need: houses of many forms, tables that are none, and a case that looks closely."""

import copy
import itertools
import unittest
from fractions import Fraction

FAR = 10 ** 6000

NO_HOUSES = {
    "no rows": [],
    "one empty row": [[]],
    "only empty rows": [[], []],
    "nine rows": [[1] * 9 for room in range(9)],
    "nine rows of eight": [[1] * 8 for room in range(9)],
    "eight rows of nine": [[1] * 9 for room in range(8)],
    "very many rows": [[1]] * 1000,
    "a first row too long": [[1, 1, 1], [1, 1]],
    "a last row too long": [[1, 1], [1, 1, 1]],
    "a first row too short": [[1], [1, 1]],
    "a last row too short": [[1, 1], [1]],
    "an empty row": [[1, 1], []],
    "two weights in one room": [[1, 1]],
    "the only row nought": [[0]],
    "a first row of noughts": [[0, 0], [1, 1]],
    "a last row of noughts": [[1, 1], [0, 0]],
    "a weight of -1": [[1, 1], [-1, 2]],
    "weights that cancel out": [[1, 1], [-1, 1]],
    "a first weight of -1": [[-1, 2], [1, 1]],
    "a weight of 10": [[1, 1], [1, 10]],
    "a first weight of 10": [[10]],
    "a weight far beyond": [[1, FAR], [1, 1]],
    "a weight far below": [[1, 1], [1, -FAR]],
}


def wide(part):
    return Fraction(part[0], part[1])


def narrow(number):
    return (number.numerator, number.denominator)


def ring(rooms, back=0):
    """Each room leads to the next one, and where a weight is told back too."""
    table = [[0] * rooms for room in range(rooms)]
    for room in range(rooms):
        table[(room + 1) % rooms][room] = back
    for room in range(rooms):
        table[room][(room + 1) % rooms] = 1
    return table


def small_houses(rooms, weights):
    rows = [list(row) for row in itertools.product(weights, repeat=rooms) if sum(row) > 0]
    return [[list(row) for row in table] for table in itertools.product(rows, repeat=rooms)]


def scattered(count):
    """Numbers without a pattern that matters, the same ones each time."""
    number = 20
    for place in range(count):
        number = (number * 6364136223846793005 + 1442695040888963407) % 2 ** 64
        yield number // 2 ** 33


def scattered_house(numbers, rooms, doors):
    """A house with about so many of ten doors open."""
    table = []
    for room in range(rooms):
        row = [1 + next(numbers) % 9 if next(numbers) % 10 < doors else 0 for goal in range(rooms)]
        if sum(row) == 0:
            row[next(numbers) % rooms] = 1 + next(numbers) % 9
        table.append(row)
    return table


def scattered_houses():
    numbers = scattered(10 ** 6)
    sizes = itertools.product(range(1, 9), (0, 1, 2, 3, 5, 10), range(3))
    return [scattered_house(numbers, rooms, doors) for rooms, doors, once_more in sizes]


NAMED_HOUSES = {
    "one room": [[5]],
    "two rooms by turns": [[0, 1], [1, 0]],
    "two rooms that lead to themselves alone": [[1, 0], [0, 9]],
    "eight rooms that lead to themselves alone": [[3 * int(one == other) for other in range(8)] for one in range(8)],
    "one left for the other": [[0, 4], [0, 1]],
    "one left for an earlier one": [[2, 0], [3, 5]],
    "two left by turns for a third": [[0, 1, 3], [2, 0, 2], [0, 0, 9]],
    "a way of eight rooms": [[int(other == min(one + 1, 7)) for other in range(8)] for one in range(8)],
    "a way of eight rooms the other way": [[int(other == max(one - 1, 0)) for other in range(8)] for one in range(8)],
    "two groups told crosswise": [
        [0, 0, 2, 0, 0], [0, 3, 0, 1, 0], [5, 0, 1, 0, 0], [0, 7, 0, 0, 0], [1, 1, 1, 1, 1],
    ],
    "three groups, and rooms left for them": [
        [1, 2, 0, 3, 0, 0, 4, 0], [0, 0, 5, 0, 0, 0, 0, 0], [0, 6, 1, 0, 0, 0, 0, 0], [0, 0, 0, 7, 0, 0, 0, 0],
        [0, 0, 1, 0, 0, 9, 0, 0], [0, 0, 0, 0, 2, 0, 0, 8], [0, 0, 0, 0, 0, 0, 0, 3], [0, 0, 0, 0, 0, 0, 4, 0],
    ],
    "a ring of three": ring(3),
    "a ring of eight": ring(8),
    "a ring of eight both ways": ring(8, 1),
    "a ring of eight, harder one way": ring(8, 2),
    "all doors alike": [[1] * 8 for room in range(8)],
    "all doors as heavy as can be": [[9] * 8 for room in range(8)],
    "eight rooms without a pattern": [
        [(3 * one + 5 * other + one * other) % 10 for other in range(8)] for one in range(8)
    ],
}
HOUSES = list(NAMED_HOUSES.values()) + scattered_houses()


def comes(table):
    """Which rooms one comes to from which, also in no steps."""
    rooms = range(len(table))
    ways = [[one == other or table[one][other] > 0 for other in rooms] for one in rooms]
    for middle, one, other in itertools.product(rooms, repeat=3):
        if ways[one][middle] and ways[middle][other]:
            ways[one][other] = True
    return ways


def is_one_group(table):
    return all(all(row) for row in comes(table))


def solved(rows, goals):
    """The numbers x with rows times x = goals, which must be there and be just one."""
    rows = [[Fraction(number) for number in row] + [Fraction(goal)] for row, goal in zip(rows, goals)]
    for place in range(len(rows)):
        pick = next(other for other in range(place, len(rows)) if rows[other][place] != 0)
        rows[place], rows[pick] = rows[pick], rows[place]
        rows[place] = [number / rows[place][place] for number in rows[place]]
        for other in range(len(rows)):
            if other != place:
                times = rows[other][place]
                rows[other] = [number - times * lead for number, lead in zip(rows[other], rows[place])]
    return [row[-1] for row in rows]


def lists_in(answer):
    """The list itself and all lists in it, at every depth."""
    if not isinstance(answer, list):
        return []
    return [answer] + [inner for member in answer for inner in lists_in(member)]


class Case(unittest.TestCase):
    def told(self, function, *handed):
        before = copy.deepcopy(handed)
        answer = function(*handed)
        self.assertTrue(handed == before, "what was handed in was changed")
        return answer

    def refused(self, error, function, *handed):
        before = copy.deepcopy(handed)
        try:
            answer = function(*handed)
        except ValueError as refusal:
            self.assertIs(type(refusal), error)
        else:
            self.fail(f"{function.__name__} answered {answer!r} in place of {error.__name__}")
        self.assertTrue(handed == before, "what was handed in was changed")

    def number_told(self, number):
        self.assertIs(type(number), int)

    def parts_told(self, answer, rooms):
        self.assertIs(type(answer), list)
        self.assertEqual(len(answer), rooms)
        for part in answer:
            self.part_told(part)

    def part_told(self, part):
        self.assertIs(type(part), tuple)
        self.assertEqual([type(number) for number in part], [int, int])
        self.assertEqual(part, narrow(wide(part)))
        self.assertGreaterEqual(part[0], 0)
        self.assertGreaterEqual(part[1], 1)
