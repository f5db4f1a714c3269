"""Houses written as texts, and read from them."""

from strollhouse.errors import NoNote
from strollhouse.houses import is_house, need_house

FIGURES = ("0", "1", "2", "3", "4", "5", "6", "7", "8", "9")


def shown_row(row):
    return " ".join([str(weight) for weight in row])


def shown(table):
    need_house(table)
    return "\n".join([shown_row(row) for row in table])


# Read figure by figure: `int` alone would also take blanks, tabs and signs around a number.
def read_row(line):
    words = line.split(" ")
    if not all([word in FIGURES for word in words]):
        raise NoNote("a row is not figures with one blank between them")
    return [int(word) for word in words]


def read(text):
    table = [read_row(line) for line in text.split("\n")]
    if not is_house(table):
        raise NoNote("these rows are not a house")
    return table
