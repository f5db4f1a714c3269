import re
import unittest

from helping import HOUSES, NAMED_HOUSES, NO_HOUSES, Case, small_houses

from strollhouse.errors import NoHouse, NoNote
from strollhouse.notes import read, shown

SIGNS = ["\t", "\n"] + [chr(number) for number in range(32, 127) if chr(number) != "%"]

NO_NOTES = {
    "an empty text": "",
    "a blank": " ",
    "a tab": "\t",
    "a line end": "\n",
    "line ends alone": "\n\n\n",
    "a blank in front": " 1 2\n3 4",
    "a blank behind": "1 2\n3 4 ",
    "a blank behind the first row": "1 2 \n3 4",
    "a blank in front of the second row": "1 2\n 3 4",
    "two blanks within": "1  2\n3 4",
    "two blanks within the last row": "1 2\n3  4",
    "no blank within": "12\n34",
    "no blank within the first row": "12\n3 4",
    "no blank within the last row": "1 2\n34",
    "a line end in front": "\n1 2\n3 4",
    "a line end behind": "1 2\n3 4\n",
    "a line end behind one room": "5\n",
    "a line end in front of one room": "\n5",
    "two line ends within": "1 2\n\n3 4",
    "no line end": "1 23 4",
    "a blank for a line end": "1 2 3 4",
    "a line end for a blank": "1\n2\n3\n4",
    "a line of blanks behind": "1 2\n3 4\n ",
    "a tab for a blank": "1\t2\n3 4",
    "a tab in front": "\t5",
    "a tab behind": "5\t",
    "a blank and one room": " 5",
    "one room and a blank": "5 ",
    "a plus": "+5",
    "a minus": "-5",
    "a minus nought": "1 -0\n1 1",
    "an underscore": "1_1",
    "a letter": "a",
    "another sign for a number": "1 O\n3 4",
    "a comma": "1,2\n3,4",
    "a comma and a blank": "1, 2\n3, 4",
    "brackets": "[[1]]",
    "a point": "1.",
    "a nought in front": "05",
    "a nought in front of one figure": "01 2\n3 4",
    "a weight of ten": "10",
    "a weight of ten among others": "1 10\n3 4",
    "two figures side by side": "1 22\n3 4",
    "a figure more in the first row": "1 2 3\n3 4",
    "a figure more in the last row": "1 2\n3 4 5",
    "a figure more in each row": "1 2 3\n4 5 6",
    "a figure less in the first row": "1\n3 4",
    "a figure less in the last row": "1 2\n3",
    "a figure less in each row": "1\n2",
    "a figure more and a figure less": "1 2 3\n4\n5 6",
    "one room of weight nought": "0",
    "a first row of noughts": "0 0\n3 4",
    "a last row of noughts": "1 2\n0 0",
    "nine rows": "\n".join([" ".join("1" * 9)] * 9),
    "nine rows of eight": "\n".join([" ".join("1" * 8)] * 9),
    "eight rows of nine": "\n".join([" ".join("1" * 9)] * 8),
    "nine rows of one": "\n".join("1" * 9),
    "blanks as many as there can be": " " * 400,
    "line ends as many as there can be": "\n" * 400,
    "figures as many as there can be": "1" * 400,
    "a long row": " ".join("1" * 200),
    "fourteen rows": "\n".join([" ".join("1" * 14)] * 14),
    "all signs": "".join(SIGNS),
}


def is_note(text):
    if re.fullmatch(r"[0-9]( [0-9])*(\n[0-9]( [0-9])*)*", text) is None:
        return False
    rows = [[int(figure) for figure in row.split(" ")] for row in text.split("\n")]
    return len(rows) <= 8 and all(len(row) == len(rows) and sum(row) > 0 for row in rows)


class Shown(Case):
    def test_some_houses(self):
        self.assertEqual(shown([[5]]), "5")
        self.assertEqual(shown([[0, 1], [9, 0]]), "0 1\n9 0")
        self.assertEqual(shown([[0, 1, 3], [2, 0, 2], [0, 0, 9]]), "0 1 3\n2 0 2\n0 0 9")
        self.assertEqual(shown(NAMED_HOUSES["all doors as heavy as can be"]), "\n".join(["9 9 9 9 9 9 9 9"] * 8))

    def test_the_form(self):
        for table in HOUSES:
            text = self.told(shown, table)
            self.assertIs(type(text), str)
            self.assertTrue(is_note(text), text)
            self.assertEqual(len(text), 2 * len(table) ** 2 - 1)
            self.assertEqual([int(figure) for figure in text.split()], sum(table, []))

    def test_no_house(self):
        for name, table in NO_HOUSES.items():
            with self.subTest(name):
                self.refused(NoHouse, shown, table)


class Read(Case):
    def test_some_texts(self):
        self.assertEqual(read("5"), [[5]])
        self.assertEqual(read("0 1\n9 0"), [[0, 1], [9, 0]])
        self.assertEqual(read("\n".join(["9 9 9 9 9 9 9 9"] * 8)), [[9] * 8] * 8)

    def test_what_is_written_is_read_to_the_same_house(self):
        for table in HOUSES + small_houses(1, range(10)) + small_houses(2, (0, 1, 9)) + small_houses(3, (0, 4)):
            house = self.told(read, shown(table))
            self.assertEqual(house, table)
            self.assertIs(type(house), list)
            for row in house:
                self.assertIs(type(row), list)
                for weight in row:
                    self.number_told(weight)

    def test_no_notes(self):
        for name, text in NO_NOTES.items():
            with self.subTest(name):
                self.assertFalse(is_note(text))
                self.refused(NoNote, read, text)

    def test_each_text_of_one_or_two_signs(self):
        for first in SIGNS:
            self.held_text(first)
            for second in SIGNS:
                self.held_text(first + second)

    def test_one_sign_more_less_or_other_at_each_place(self):
        for text in ("5", "0 1\n9 0", "1 2 3\n4 5 6\n7 8 9", shown(NAMED_HOUSES["all doors alike"])):
            for place in range(len(text) + 1):
                self.held_text(text[:place] + text[place + 1:])
                for sign in SIGNS:
                    self.held_text(text[:place] + sign + text[place:])
                    self.held_text(text[:place] + sign + text[place + 1:])

    def test_two_signs_changed_about(self):
        for text in ("0 1\n9 0", "1 0 0\n0 1 0\n0 0 1", shown(NAMED_HOUSES["a ring of eight"])):
            for place in range(len(text) - 1):
                self.held_text(text[:place] + text[place + 1] + text[place] + text[place + 2:])

    def test_parts_of_a_note_and_notes_one_behind_the_other(self):
        text = shown(NAMED_HOUSES["a ring of eight"])
        for place in range(len(text)):
            self.held_text(text[:place])
            self.held_text(text[place:])
        for between in ("", " ", "\n", "\n\n"):
            self.held_text(text + between + text)

    def held_text(self, text):
        if is_note(text):
            self.assertEqual(shown(self.told(read, text)), text)
        else:
            self.refused(NoNote, read, text)


if __name__ == "__main__":
    unittest.main()
