import copy
import itertools
import unittest
from fractions import Fraction

from helping import FAR, NO_HOUSES, Case, narrow, wide

from strollhouse.errors import NoCount, NoHouse, NoRoom, NoShares
from strollhouse.houses import after, is_house, step, walked

ONE_ROOM = [[5]]
FORK = [[0, 1, 3], [2, 0, 2], [0, 0, 9]]
EIGHT = [[(3 * one + 5 * other + one * other) % 10 for other in range(8)] for one in range(8)]
# Row sums without common divisors make the bottoms grow as fast as they can.
STEEP = [
    [9, 9, 9, 9, 9, 9, 9, 8], [9, 9, 9, 9, 9, 9, 9, 4], [9, 9, 9, 9, 9, 9, 7, 0], [9, 9, 9, 9, 9, 9, 5, 0],
    [9, 9, 9, 9, 9, 8, 0, 0], [9, 9, 9, 9, 9, 2, 0, 0], [9, 9, 9, 9, 7, 0, 0, 0], [9, 9, 9, 9, 5, 0, 0, 0],
]
HOUSES = (ONE_ROOM, [[1]], [[9]], [[0, 1], [1, 0]], [[1, 0], [0, 9]], [[9, 9], [3, 6]], FORK, EIGHT, STEEP)


def walked_plainly(table, shares):
    rooms = range(len(table))
    return [sum(shares[one] * Fraction(table[one][other], sum(table[one])) for one in rooms) for other in rooms]


def after_plainly(table, start, steps):
    shares = [Fraction(int(room == start)) for room in range(len(table))]
    for done in range(steps):
        shares = walked_plainly(table, shares)
    return [narrow(share) for share in shares]


def some_shares(rooms):
    tops = [3 * room + 1 for room in range(rooms)]
    return [narrow(Fraction(top, sum(tops))) for top in tops]


class IsHouse(Case):
    def test_houses(self):
        for table in HOUSES:
            self.assertIs(is_house(table), True, table)

    def test_each_weight_of_one_room(self):
        for weight in range(-3, 14):
            self.assertIs(is_house([[weight]]), 1 <= weight <= 9, weight)

    def test_each_number_of_rooms(self):
        for rooms in range(0, 12):
            table = [[1] * rooms for room in range(rooms)]
            self.assertIs(is_house(table), 1 <= rooms <= 8, rooms)

    def test_one_door_in_a_row_is_enough(self):
        for goal in range(8):
            table = [[1] * 8 for room in range(8)]
            table[5] = [int(room == goal) for room in range(8)]
            self.assertIs(is_house(table), True)

    def test_weights_nought_and_nine(self):
        self.assertIs(is_house([[0, 9], [9, 0]]), True)
        self.assertIs(is_house([[9] * 8 for room in range(8)]), True)

    def test_a_wrong_weight_at_any_place(self):
        for one, other, weight in itertools.product(range(8), range(8), (-1, 10, FAR, -FAR)):
            table = [[1] * 8 for room in range(8)]
            table[one][other] = weight
            self.assertIs(is_house(table), False, (one, other))

    def test_no_houses(self):
        for name, table in NO_HOUSES.items():
            with self.subTest(name):
                self.assertIs(is_house(table), False)

    def test_one_row_may_stand_for_several_rooms(self):
        row = [1, 2]
        self.assertIs(is_house([row, row]), True)

    def test_what_is_handed_in_is_not_changed_or_kept(self):
        table = copy.deepcopy(FORK)
        self.assertIs(is_house(table), True)
        self.assertEqual(table, FORK)
        table[0][1] = 10
        self.assertIs(is_house(table), False)
        table[0][1] = 9
        self.assertIs(is_house(table), True)


class Step(Case):
    def test_the_weight_of_all_weights_of_the_row(self):
        self.assertEqual(step(FORK, 0, 1), (1, 4))
        self.assertEqual(step(FORK, 0, 2), (3, 4))
        self.assertEqual(step([[1, 5], [2, 1]], 0, 1), (5, 6))
        self.assertEqual(step([[1, 5], [2, 1]], 1, 0), (2, 3))

    def test_lowest_terms(self):
        self.assertEqual(step(FORK, 1, 0), (1, 2))
        self.assertEqual(step([[3, 6], [1, 1]], 0, 1), (2, 3))

    def test_nought_and_one(self):
        self.assertEqual(step(FORK, 0, 0), (0, 1))
        self.assertEqual(step(FORK, 2, 1), (0, 1))
        self.assertEqual(step(FORK, 2, 2), (1, 1))
        self.assertEqual(step(ONE_ROOM, 0, 0), (1, 1))

    def test_each_step_of_each_house(self):
        for table in HOUSES:
            for one, other in itertools.product(range(len(table)), repeat=2):
                part = step(table, one, other)
                self.part_told(part)
                self.assertEqual(part, narrow(Fraction(table[one][other], sum(table[one]))))

    def test_no_house(self):
        for name, table in NO_HOUSES.items():
            with self.subTest(name):
                self.refused(NoHouse, step, table, 0, 0)

    def test_no_room(self):
        for table in HOUSES:
            for room in (-1, -len(table), len(table), len(table) + 1, FAR, -FAR):
                self.refused(NoRoom, step, table, room, 0)
                self.refused(NoRoom, step, table, 0, room)
                self.refused(NoRoom, step, table, room, room)

    def test_no_house_comes_ahead_of_no_room(self):
        for table in NO_HOUSES.values():
            self.refused(NoHouse, step, table, -1, FAR)

    def test_what_is_handed_in_is_not_changed_or_kept(self):
        table = copy.deepcopy(FORK)
        self.assertEqual(step(table, 0, 1), (1, 4))
        self.assertEqual(table, FORK)
        table[0][1] = 3
        self.assertEqual(step(table, 0, 1), (1, 2))


class Walked(Case):
    def test_shares_after_one_step(self):
        self.assertEqual(walked(FORK, [(1, 2), (1, 3), (1, 6)]), [(1, 6), (1, 8), (17, 24)])
        self.assertEqual(walked([[0, 1], [1, 0]], [(1, 3), (2, 3)]), [(2, 3), (1, 3)])

    def test_all_in_one_room(self):
        self.assertEqual(walked(FORK, [(1, 1), (0, 1), (0, 1)]), [(0, 1), (1, 4), (3, 4)])
        self.assertEqual(walked(FORK, [(0, 1), (0, 1), (1, 1)]), [(0, 1), (0, 1), (1, 1)])

    def test_one_room(self):
        self.assertEqual(walked(ONE_ROOM, [(1, 1)]), [(1, 1)])

    def test_each_house_against_plain_sums(self):
        for table in HOUSES:
            shares = some_shares(len(table))
            answer = walked(table, shares)
            self.parts_told(answer, len(table))
            plainly = walked_plainly(table, [wide(share) for share in shares])
            self.assertEqual(answer, [narrow(share) for share in plainly])
            self.assertEqual(sum(wide(share) for share in answer), 1)

    def test_what_was_told_may_be_handed_in(self):
        shares = [(1, 1)] + [(0, 1)] * 7
        for steps in range(6):
            self.assertEqual(shares, after_plainly(EIGHT, 0, steps))
            shares = walked(EIGHT, shares)

    def test_long_parts(self):
        shares = [(1, FAR), (FAR - 1, FAR)]
        self.assertEqual(walked([[0, 1], [1, 0]], shares), [(FAR - 1, FAR), (1, FAR)])

    def test_no_house(self):
        for name, table in NO_HOUSES.items():
            with self.subTest(name):
                self.refused(NoHouse, walked, table, [(1, 1)])

    def test_no_shares(self):
        wrong = {
            "none": [],
            "one less": [(1, 1)],
            "one more": [(1, 2), (1, 2), (0, 1)],
            "one more, not nought": [(1, 3), (1, 3), (1, 3)],
            "very many": [(1, 1)] + [(0, 1)] * 1000,
            "not lowest": [(2, 4), (1, 2)],
            "not lowest, last": [(1, 2), (2, 4)],
            "one not lowest": [(2, 2), (0, 1)],
            "nought not lowest": [(1, 1), (0, 2)],
            "nought far from lowest": [(0, FAR), (1, 1)],
            "below nought": [(-1, 2), (3, 2)],
            "below nought, last": [(3, 2), (-1, 2)],
            "bottom of nought": [(1, 1), (0, 0)],
            "bottom of nought, top of one": [(1, 0), (1, 1)],
            "bottom of nought, top below": [(-1, 0), (1, 1)],
            "only bottoms of nought": [(0, 0), (0, 0)],
            "bottom below nought": [(1, -2), (3, 2)],
            "top and bottom below nought": [(-1, -2), (1, 2)],
            "nought over bottom below": [(0, -1), (1, 1)],
            "more than one": [(1, 2), (2, 3)],
            "a little more than one": [(1, 2), (FAR + 2, 2 * FAR + 2)],
            "two": [(1, 1), (1, 1)],
            "less than one": [(1, 2), (1, 3)],
            "nought in all": [(0, 1), (0, 1)],
            "far more": [(FAR, 1), (0, 1)],
            "far below": [(-FAR, 1), (FAR + 1, 1)],
        }
        for name, shares in wrong.items():
            with self.subTest(name):
                self.refused(NoShares, walked, [[1, 2], [3, 4]], shares)

    def test_no_shares_of_one_room(self):
        for shares in ([], [(0, 1)], [(1, 2)], [(2, 1)], [(2, 2)], [(-1, -1)], [(1, 1), (0, 1)]):
            self.refused(NoShares, walked, ONE_ROOM, shares)

    def test_no_shares_of_eight_rooms(self):
        for shares in ([(1, 8)] * 7, [(1, 7)] * 7, [(1, 9)] * 8, [(1, 9)] * 9, [(1, 7)] * 8):
            self.refused(NoShares, walked, EIGHT, shares)

    def test_no_house_comes_ahead_of_no_shares(self):
        for table in NO_HOUSES.values():
            for shares in ([], [(1, 2)], [(0, 0)], [(1, 0), (1, 1)], [(-1, -2)] * 9):
                self.refused(NoHouse, walked, table, shares)

    def test_what_is_handed_in_is_not_changed_or_kept(self):
        table = copy.deepcopy(FORK)
        shares = [(1, 1), (0, 1), (0, 1)]
        answer = walked(table, shares)
        self.assertEqual(table, FORK)
        self.assertEqual(shares, [(1, 1), (0, 1), (0, 1)])
        table[0][1] = 3
        shares[0] = (0, 1)
        shares[1] = (1, 1)
        self.assertEqual(answer, [(0, 1), (1, 4), (3, 4)])
        self.assertEqual(walked(table, shares), [(1, 2), (0, 1), (1, 2)])

    def test_what_is_told_is_the_askers_own(self):
        for table, shares in ((FORK, some_shares(3)), (ONE_ROOM, [(1, 1)]), ([[1, 0], [0, 1]], [(1, 2), (1, 2)])):
            first = walked(table, shares)
            second = walked(table, shares)
            self.assertIsNot(first, shares)
            self.assertIsNot(first, second)
            first.clear()
            second.append("changed")
            self.assertEqual(walked(table, shares), second[:-1])
            self.assertEqual(len(shares), len(table))


class After(Case):
    def test_no_steps(self):
        self.assertEqual(after(FORK, 1, 0), [(0, 1), (1, 1), (0, 1)])
        self.assertEqual(after(ONE_ROOM, 0, 0), [(1, 1)])
        self.assertEqual(after(EIGHT, 7, 0), [(0, 1)] * 7 + [(1, 1)])

    def test_some_steps(self):
        self.assertEqual(after(FORK, 0, 1), [(0, 1), (1, 4), (3, 4)])
        self.assertEqual(after(FORK, 0, 2), [(1, 8), (0, 1), (7, 8)])
        self.assertEqual(after(FORK, 0, 3), [(0, 1), (1, 32), (31, 32)])

    def test_forty_steps(self):
        self.assertEqual(after(ONE_ROOM, 0, 40), [(1, 1)])
        self.assertEqual(after([[0, 1], [1, 0]], 0, 39), [(0, 1), (1, 1)])
        self.assertEqual(after([[0, 1], [1, 0]], 0, 40), [(1, 1), (0, 1)])
        self.assertEqual(after([[1, 1], [0, 1]], 0, 40), [(1, 2 ** 40), (2 ** 40 - 1, 2 ** 40)])

    def test_each_house_against_plain_sums(self):
        for table in HOUSES:
            for start, steps in itertools.product({0, len(table) - 1}, (0, 1, 2, 3, 7, 39, 40)):
                answer = after(table, start, steps)
                self.parts_told(answer, len(table))
                self.assertEqual(answer, after_plainly(table, start, steps))

    def test_each_number_of_steps_is_one_step_on(self):
        for start in range(3):
            shares = after(FORK, start, 0)
            for steps in range(1, 41):
                shares = walked(FORK, shares)
                self.assertEqual(after(FORK, start, steps), shares)

    def test_no_house(self):
        for name, table in NO_HOUSES.items():
            with self.subTest(name):
                self.refused(NoHouse, after, table, 0, 1)

    def test_no_room(self):
        for table in HOUSES:
            for room in (-1, -len(table), len(table), len(table) + 1, FAR, -FAR):
                for steps in (0, 1, 40):
                    self.refused(NoRoom, after, table, room, steps)

    def test_no_count(self):
        for table in HOUSES:
            for steps in (-1, -40, 41, 42, FAR, -FAR):
                self.refused(NoCount, after, table, 0, steps)
                self.refused(NoCount, after, table, len(table) - 1, steps)

    def test_the_order_of_the_refusals(self):
        for steps in (-1, 41, FAR):
            for room in (-1, 3, FAR):
                self.refused(NoRoom, after, FORK, room, steps)
                for table in NO_HOUSES.values():
                    self.refused(NoHouse, after, table, room, steps)
            for table in NO_HOUSES.values():
                self.refused(NoHouse, after, table, 0, steps)

    def test_what_is_handed_in_is_not_changed_or_kept(self):
        table = copy.deepcopy(FORK)
        answer = after(table, 0, 2)
        self.assertEqual(table, FORK)
        table[0][1] = 3
        self.assertEqual(answer, [(1, 8), (0, 1), (7, 8)])
        self.assertEqual(after(table, 0, 2), [(1, 4), (0, 1), (3, 4)])

    def test_what_is_told_is_the_askers_own(self):
        for steps in (0, 1, 40):
            first = after(FORK, 0, steps)
            second = after(FORK, 0, steps)
            self.assertIsNot(first, second)
            first.clear()
            second.append("changed")
            self.assertEqual(after(FORK, 0, steps), after_plainly(FORK, 0, steps))


if __name__ == "__main__":
    unittest.main()
