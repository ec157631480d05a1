"""Tables written plainly, and read back."""

from gridframe.errors import BadPlain, BadTable
from gridframe.tables import checked

FIGURES = "0123456789"
MOST_FIGURES = 2


def plain(table):
    rows = [table[:2]] + [cell[:4] + cell[4] for cell in table[2]]
    return "".join([plain_row(row) for row in rows])


def read_plain(text):
    rows = ended_rows(text)
    if rows == []:
        raise BadPlain("no text of rows that are each ended")
    cells = [cell_in(row) for row in rows[1:]]
    try:
        told = checked(numbers_in(rows[0].split(" ")) + (cells,))
    except BadTable:
        raise BadPlain("what is written is no table") from None
    # A number may still have been written otherwise than a table's numbers are.
    if plain(told) != text:
        raise BadPlain("the table is written otherwise")
    return told


def plain_row(parts):
    return " ".join([str(part) for part in parts]) + "\n"


def ended_rows(thing):
    if not isinstance(thing, str) or not thing.endswith("\n"):
        return []
    return thing.split("\n")[:-1]


def cell_in(row):
    parts = row.split(" ")
    return numbers_in(parts[:4]) + (tuple(parts[4:]),)


def numbers_in(parts):
    return tuple([number_in(part) for part in parts])


def number_in(part):
    # None is no number of a table, so a part that is none is refused when the table is checked. The figures are
    # counted first: `int` takes those of other writings too, and fails where there are thousands of them.
    if not 1 <= len(part) <= MOST_FIGURES or not all([sign in FIGURES for sign in part]):
        return None
    return int(part)
