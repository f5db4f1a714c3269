import itertools
import math
import unittest
from fractions import Fraction

from helping import (
    FAR, HOUSES, NAMED_HOUSES, NO_HOUSES, Case, is_one_group, narrow, ring, scattered, scattered_house, small_houses,
    solved, wide,
)

from strollhouse.errors import NoHouse, NoRoom, NotBack
from strollhouse.groups import closed
from strollhouse.houses import walked
from strollhouse.long import back_mean, long_run, trees


def leads_to_root(picks, room, root):
    for steps in range(len(picks)):
        room = room if room == root else picks[room]
    return room == root


def trees_plainly(table, root):
    """All ways to pick a goal for each other room, one by one."""
    rooms = range(len(table))
    found = 0
    choices = [[None] if room == root else [goal for goal in rooms if table[room][goal]] for room in rooms]
    for picks in itertools.product(*choices):
        if all(leads_to_root(picks, room, root) for room in rooms):
            found += math.prod(table[room][picks[room]] for room in rooms if room != root)
    return found


def left_for_good(table):
    return [room for room in range(len(table)) if not any(room in group for group in closed(table))]


def back_mean_plainly(table, room, group):
    """The mean of the steps to a room is one, and that of where the step leads; those means are solved for."""
    others = [other for other in group if other != room]
    rows = [
        [int(one == other) - Fraction(table[one][other], sum(table[one])) for other in others] for one in others
    ]
    means = dict(zip(others, solved(rows, [1] * len(others))))
    return 1 + sum(Fraction(table[room][other], sum(table[room])) * means[other] for other in others)


class LongRun(Case):
    def test_named_houses(self):
        nought, one = (0, 1), (1, 1)
        told = {
            "one room": [[one]],
            "two rooms by turns": [[(1, 2), (1, 2)]],
            "two rooms that lead to themselves alone": [[one, nought], [nought, one]],
            "eight rooms that lead to themselves alone": [
                [one if other == room else nought for other in range(8)] for room in range(8)
            ],
            "one left for the other": [[nought, one]],
            "one left for an earlier one": [[one, nought]],
            "two left by turns for a third": [[nought, nought, one]],
            "a way of eight rooms": [[nought] * 7 + [one]],
            "two groups told crosswise": [
                [(5, 11), nought, (6, 11), nought, nought], [nought, (4, 5), nought, (1, 5), nought],
            ],
            "three groups, and rooms left for them": [
                [nought, (6, 13), (7, 13)] + [nought] * 5, [nought] * 3 + [one] + [nought] * 4,
                [nought] * 6 + [(1, 2), (1, 2)],
            ],
            "a ring of eight": [[(1, 8)] * 8],
            "a ring of eight, harder one way": [[(1, 8)] * 8],
            "all doors as heavy as can be": [[(1, 8)] * 8],
        }
        for name, answer in told.items():
            with self.subTest(name):
                self.assertEqual(self.told(long_run, NAMED_HOUSES[name]), answer)

    def test_two_rooms(self):
        self.assertEqual(long_run([[0, 1], [3, 1]]), [[(3, 7), (4, 7)]])
        self.assertEqual(long_run([[1, 2], [1, 1]]), [[(3, 7), (4, 7)]])
        self.assertEqual(long_run([[9, 1], [9, 0]]), [[(10, 11), (1, 11)]])

    def test_what_the_document_asks_of_the_shares(self):
        for table in HOUSES + small_houses(2, (0, 1, 2, 9)):
            groups = closed(table)
            answer = self.told(long_run, table)
            self.assertIs(type(answer), list)
            self.assertEqual(len(answer), len(groups))
            for group, shares in zip(groups, answer):
                self.parts_told(shares, len(table))
                self.assertEqual(sum(wide(share) for share in shares), 1)
                self.assertEqual(walked(table, shares), shares)
                for room, share in enumerate(shares):
                    if room in group:
                        self.assertGreater(share[0], 0)
                    else:
                        self.assertEqual(share, (0, 1))

    def test_no_house(self):
        for name, table in NO_HOUSES.items():
            with self.subTest(name):
                self.refused(NoHouse, long_run, table)


class BackMean(Case):
    def test_some_means(self):
        self.assertEqual(back_mean([[5]], 0), (1, 1))
        self.assertEqual(back_mean([[0, 1], [3, 1]], 0), (7, 3))
        self.assertEqual(back_mean([[0, 1], [3, 1]], 1), (7, 4))
        self.assertEqual(back_mean([[1, 0], [0, 9]], 1), (1, 1))
        self.assertEqual(back_mean([[0, 4], [0, 1]], 1), (1, 1))
        for room in range(8):
            self.assertEqual(back_mean(ring(8), room), (8, 1))

    def test_a_room_of_a_later_group(self):
        table = NAMED_HOUSES["three groups, and rooms left for them"]
        means = [back_mean(table, room) for room in (1, 2, 3, 6, 7)]
        self.assertEqual(means, [(13, 6), (13, 7), (1, 1), (2, 1), (2, 1)])

    def test_one_divided_by_the_share(self):
        for table in HOUSES:
            for group, shares in zip(closed(table), long_run(table)):
                for room in group:
                    mean = self.told(back_mean, table, room)
                    self.part_told(mean)
                    self.assertEqual(wide(mean) * wide(shares[room]), 1)

    def test_means_that_are_solved_for(self):
        for table in HOUSES:
            for group in closed(table):
                for room in group:
                    self.assertEqual(back_mean(table, room), narrow(back_mean_plainly(table, room, group)))

    def test_rooms_that_are_left_for_good(self):
        self.refused(NotBack, back_mean, [[0, 4], [0, 1]], 0)
        self.refused(NotBack, back_mean, [[2, 0], [3, 5]], 1)
        for table in HOUSES:
            for room in left_for_good(table):
                self.refused(NotBack, back_mean, table, room)

    def test_no_house(self):
        for name, table in NO_HOUSES.items():
            with self.subTest(name):
                for room in (0, -1, len(table), FAR):
                    self.refused(NoHouse, back_mean, table, room)

    def test_no_room(self):
        for table in HOUSES:
            for room in (-1, -len(table), len(table), len(table) + 1, FAR, -FAR):
                self.refused(NoRoom, back_mean, table, room)

    def test_a_number_from_the_end_is_no_room_that_is_left_for_good(self):
        self.refused(NoRoom, back_mean, [[2, 0], [3, 5]], -1)
        self.refused(NoRoom, back_mean, [[0, 4], [0, 1]], -2)


class Trees(Case):
    def all_trees(self, table):
        return [self.told(trees, table, root) for root in range(len(table))]

    def test_one_room(self):
        for weight in range(1, 10):
            self.assertEqual(self.all_trees([[weight]]), [1])

    def test_two_rooms(self):
        self.assertEqual(self.all_trees([[1, 2], [3, 4]]), [3, 2])
        self.assertEqual(self.all_trees([[0, 4], [0, 1]]), [0, 4])
        self.assertEqual(self.all_trees([[1, 0], [0, 9]]), [0, 0])

    def test_three_rooms(self):
        # To room 0: 1 and 2 straight, 1 by way of 2, and 2 by way of 1.
        self.assertEqual(trees([[0, 1, 1], [2, 0, 3], [5, 7, 0]], 0), 2 * 5 + 3 * 5 + 2 * 7)

    def test_doors_to_the_room_itself_do_not_count(self):
        for table in HOUSES:
            other = [[9 if one == goal else weight for goal, weight in enumerate(row)] for one, row in enumerate(table)]
            self.assertEqual(self.all_trees(table), self.all_trees(other))

    def test_eight_rooms(self):
        self.assertEqual(self.all_trees(NAMED_HOUSES["all doors alike"]), [8 ** 6] * 8)
        self.assertEqual(self.all_trees(NAMED_HOUSES["all doors as heavy as can be"]), [9 ** 7 * 8 ** 6] * 8)
        self.assertEqual(self.all_trees(NAMED_HOUSES["a ring of eight"]), [1] * 8)
        self.assertEqual(self.all_trees(NAMED_HOUSES["a way of eight rooms"]), [0] * 7 + [1])
        self.assertEqual(self.all_trees(NAMED_HOUSES["a way of eight rooms the other way"]), [1] + [0] * 7)

    def test_a_ring_both_ways_counts_each_gap(self):
        self.assertEqual(self.all_trees(ring(8, 2)), [sum(2 ** back for back in range(8))] * 8)

    def test_all_small_houses_one_by_one(self):
        tables = small_houses(1, (0, 1, 9)) + small_houses(2, (0, 1, 2, 9)) + small_houses(3, (0, 1))
        for table in tables:
            for root in range(len(table)):
                self.assertEqual(trees(table, root), trees_plainly(table, root), (table, root))

    def test_middling_houses_one_by_one(self):
        numbers = scattered(10 ** 6)
        for rooms, doors in itertools.product((3, 4, 5), (1, 2, 4, 6, 8, 10)):
            for once_more in range(4):
                table = scattered_house(numbers, rooms, doors)
                told = self.all_trees(table)
                for number in told:
                    self.number_told(number)
                self.assertEqual(told, [trees_plainly(table, root) for root in range(rooms)], table)

    def test_eight_rooms_with_few_doors_one_by_one(self):
        for table in HOUSES:
            if len(table) > 5 and math.prod(sum(weight > 0 for weight in row) for row in table) < 3000:
                self.assertEqual(self.all_trees(table), [trees_plainly(table, root) for root in range(len(table))])

    def test_they_are_in_balance(self):
        for table in HOUSES:
            worths = self.all_trees(table)
            for room, row in enumerate(table):
                coming = sum(worth * other[room] for worth, other in zip(worths, table))
                self.assertEqual(worths[room] * sum(row), coming, table)

    def test_shares_are_to_one_another_as_the_trees(self):
        for table in HOUSES:
            if len(closed(table)) == 1:
                worths = [worth * sum(row) for worth, row in zip(self.all_trees(table), table)]
                shares = [wide(share) for share in long_run(table)[0]]
                self.assertEqual([Fraction(worth, sum(worths)) for worth in worths], shares)

    def test_no_trees_where_a_room_does_not_lead_there(self):
        for table in HOUSES:
            if len(closed(table)) > 1:
                self.assertEqual(self.all_trees(table), [0] * len(table))
            elif not is_one_group(table):
                for room, worth in enumerate(self.all_trees(table)):
                    self.assertEqual(worth > 0, room in closed(table)[0])

    def test_no_house(self):
        for name, table in NO_HOUSES.items():
            with self.subTest(name):
                for room in (0, -1, len(table), FAR):
                    self.refused(NoHouse, trees, table, room)

    def test_no_room(self):
        for table in HOUSES:
            for room in (-1, -len(table), len(table), len(table) + 1, FAR, -FAR):
                self.refused(NoRoom, trees, table, room)


if __name__ == "__main__":
    unittest.main()
