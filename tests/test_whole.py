"""What the document promises of the whole program: held for each function in the same way."""

import copy
import inspect
import unittest

from helping import FAR, HOUSES, NO_HOUSES, Case, is_one_group, lists_in

from strollhouse import backward, groups, houses, long, notes
from strollhouse.errors import NoCount, NoHouse, NoNote, NoRoom, NoShares, NotBack, Parted

PARAMETERS = {
    houses.is_house: ["table"],
    houses.step: ["table", "one", "other"],
    houses.walked: ["table", "shares"],
    houses.after: ["table", "start", "steps"],
    groups.closed: ["table"],
    groups.wheel: ["table", "room"],
    long.long_run: ["table"],
    long.back_mean: ["table", "room"],
    long.trees: ["table", "root"],
    backward.backward: ["table"],
    backward.is_even: ["table"],
    backward.uneven_round: ["table"],
    notes.shown: ["table"],
    notes.read: ["text"],
}
# What may be handed in beside the house so that nothing is refused for it.
BESIDE = {
    houses.step: lambda table: (0, len(table) - 1),
    houses.walked: lambda table: ([(1, len(table))] * len(table),),
    houses.after: lambda table: (0, 3),
    groups.wheel: lambda table: (len(table) - 1,),
    long.back_mean: lambda table: (groups.closed(table)[-1][-1],),
    long.trees: lambda table: (len(table) - 1,),
}
# What is refused in any house.
WRONG_BESIDE = {
    houses.step: (NoRoom, (-1, FAR)),
    houses.walked: (NoShares, ([(0, 0)] * 9,)),
    houses.after: (NoRoom, (-1, -1)),
    groups.wheel: (NoRoom, (FAR,)),
    long.back_mean: (NoRoom, (-1,)),
    long.trees: (NoRoom, (-FAR,)),
}
WHOLE_ONLY = (backward.backward, backward.is_even, backward.uneven_round)
WITH_HOUSE = [function for function in PARAMETERS if function not in (houses.is_house, notes.read)]


def beside(function, table):
    return BESIDE[function](table) if function in BESIDE else ()


def tables_for(function):
    return [table for table in HOUSES if function not in WHOLE_ONLY or is_one_group(table)]


def asked():
    """Each function that answers, with what can be handed in."""
    for function in WITH_HOUSE:
        for table in tables_for(function):
            yield function, (table, *beside(function, table))
    for table in HOUSES:
        yield houses.is_house, (table,)
        yield notes.read, (notes.shown(table),)


def spoil(answer):
    for inner in lists_in(answer):
        inner.append("changed")
        inner.reverse()


class Whole(Case):
    def test_the_names_and_arguments(self):
        for function, names in PARAMETERS.items():
            self.assertEqual(list(inspect.signature(function).parameters), names, function.__name__)

    def test_what_is_handed_in_stays_as_it_was(self):
        for function, handed in asked():
            self.told(function, *copy.deepcopy(handed))

    def test_what_is_told_is_told_again(self):
        for function, handed in asked():
            self.assertEqual(function(*handed), function(*copy.deepcopy(handed)), function.__name__)

    def test_what_is_told_can_be_changed_at_every_depth(self):
        for function, handed in asked():
            handed = copy.deepcopy(handed)
            before = copy.deepcopy(handed)
            first = function(*handed)
            kept = copy.deepcopy(first)
            spoil(first)
            self.assertEqual(handed, before, function.__name__)
            second = function(*handed)
            self.assertEqual(second, kept, function.__name__)
            spoil(second)
            self.assertEqual(function(*handed), kept, function.__name__)

    def test_no_two_lists_that_are_told_are_one(self):
        for function, handed in asked():
            told = lists_in([function(*handed), function(*handed)]) + lists_in(list(handed))
            self.assertEqual(len({id(one) for one in told}), len(told), function.__name__)

    def test_a_house_that_is_changed_later_changes_nothing_told(self):
        for function, handed in asked():
            handed = copy.deepcopy(handed)
            answer = function(*handed)
            kept = copy.deepcopy(answer)
            for given in handed:
                spoil(given)
            self.assertEqual(answer, kept, function.__name__)

    def test_a_house_that_is_changed_is_another_house(self):
        for function in WITH_HOUSE:
            table = [[1, 2], [3, 4]]
            first = function(table, *beside(function, table))
            table[1][0] = 10
            self.refused(NoHouse, function, table, *beside(function, [[1]]))
            table[1][0] = 3
            self.assertEqual(function(table, *beside(function, table)), first)

    def test_rows_that_are_one_list(self):
        for function in WITH_HOUSE:
            row = [3, 1, 2]
            one_list = [row, row, row]
            apart = [list(row) for room in range(3)]
            told = function(one_list, *beside(function, one_list))
            self.assertEqual(told, function(apart, *beside(function, apart)))
            self.assertEqual(len({id(inner) for inner in lists_in(told)}), len(lists_in(told)))


class Refusals(Case):
    def test_no_house_comes_ahead_of_all_else(self):
        for name, table in NO_HOUSES.items():
            for function in WITH_HOUSE:
                with self.subTest(name, function=function.__name__):
                    self.refused(NoHouse, function, table, *beside(function, [[1]]))
                    if function in WRONG_BESIDE:
                        self.refused(NoHouse, function, table, *WRONG_BESIDE[function][1])

    def test_what_is_wrong_beside_a_house(self):
        for table in HOUSES:
            for function, (error, handed) in WRONG_BESIDE.items():
                self.refused(error, function, table, *handed)

    def test_parted_comes_behind_no_house(self):
        # Two rooms that lead to themselves alone, and a wrong weight or a row too long.
        for function in WHOLE_ONLY:
            self.refused(Parted, function, [[1, 0], [0, 1]])
            self.refused(NoHouse, function, [[10, 0], [0, 1]])
            self.refused(NoHouse, function, [[1, 0], [0, 1, 0]])

    def test_no_room_comes_ahead_of_not_back_and_of_no_count(self):
        table = [[0, 4], [0, 1]]
        self.refused(NotBack, long.back_mean, table, 0)
        self.refused(NoRoom, long.back_mean, table, -2)
        self.refused(NoRoom, long.back_mean, table, 2)
        self.refused(NoHouse, long.back_mean, [[0, 10], [0, 1]], 0)
        self.refused(NoCount, houses.after, table, 0, 41)
        self.refused(NoRoom, houses.after, table, 2, 41)
        self.refused(NoHouse, houses.after, [[0, 10], [0, 1]], 2, 41)

    def test_a_text_is_refused_as_a_note_alone(self):
        for text in ("", "0", "10", "1 1", "1 2\n3 x"):
            self.refused(NoNote, notes.read, text)


if __name__ == "__main__":
    unittest.main()
