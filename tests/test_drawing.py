import textwrap
import unittest

from gridframe.blocks import joined
from gridframe.deeds import turned
from gridframe.drawing import drawn
from gridframe.tables import empty, with_words
from gridframe.words import layout
from tests.helper import (
    PINWHEEL, PINWHEEL_DRAWN, grid_of, large_tables, one_cell, small_tables, told_afresh, wordy_tables,
)


def slots(sizes):
    """For each sign along one side: whether it stands on a line, and the number of the line or of the slot."""
    found = []
    for at, size in enumerate(sizes):
        found.append((True, at))
        found.extend([(False, at)] * size)
    return found + [(True, len(sizes))]


class Second:
    """A drawing thought of sign by sign."""

    def __init__(self, table):
        self.table = table
        self.grid, self.words = grid_of(table)
        widths, heights = layout(table)
        self.down = slots(heights)
        self.across = slots(widths)

    def name(self, row, column):
        if 0 <= row < self.table[0] and 0 <= column < self.table[1]:
            return self.grid[row][column]
        return None

    def sides(self, row, column):
        """How many borders come to the place where line `row` and line `column` meet."""
        around = [self.name(row - 1, column - 1), self.name(row - 1, column), self.name(row, column),
                  self.name(row, column - 1)]
        return sum(one != other for one, other in zip(around, around[1:] + around[:1]))

    def sign(self, y, x):
        on_row_line, row = self.down[y]
        on_column_line, column = self.across[x]
        if on_row_line and on_column_line and self.sides(row, column):
            return "+"
        if on_row_line and not on_column_line and self.name(row - 1, column) != self.name(row, column):
            return "-"
        if on_column_line and not on_row_line and self.name(row, column - 1) != self.name(row, column):
            return "|"
        return self.word_sign(self.name(row, column), y, x)

    def word_sign(self, name, y, x):
        top, left, height, width, words = self.table[2][name]
        first_y = self.down.index((True, top)) + 1
        first_x = self.across.index((True, left)) + 1
        room = self.across.index((True, left + width)) - first_x
        lines = textwrap.wrap(" ".join(words), room)
        if y - first_y < len(lines):
            return lines[y - first_y].ljust(room)[x - first_x]
        return " "

    def text(self):
        rows = ["".join(self.sign(y, x) for x in range(len(self.across))) for y in range(len(self.down))]
        return "".join(row + "\n" for row in rows)


class Drawing(unittest.TestCase):
    def draws(self, table, *rows):
        self.assertEqual(told_afresh(self, drawn, table), "".join(row + "\n" for row in rows))
        self.assertEqual(Second(table).text(), drawn(table))

    def test_one_cell_without_words(self):
        self.draws(
            one_cell(1, 1),
            "+-+",
            "| |",
            "+-+",
        )

    def test_one_cell_with_words(self):
        self.draws(
            one_cell(1, 1, "a"),
            "+-+",
            "|a|",
            "+-+",
        )
        self.draws(
            one_cell(1, 1, "hello", "a", "b", "of", "0"),
            "+-----+",
            "|hello|",
            "|a b  |",
            "|of 0 |",
            "+-----+",
        )

    def test_cells_of_one_place(self):
        self.draws(
            with_words(with_words(empty(2, 2), 0, 1, ("abc", "d")), 1, 0, ("xy",)),
            "+--+---+",
            "|  |abc|",
            "|  |d  |",
            "+--+---+",
            "|xy|   |",
            "+--+---+",
        )

    def test_no_border_comes_to_a_place_where_two_lines_meet(self):
        self.draws(
            one_cell(2, 2),
            "+-+-+",
            "|   |",
            "+   +",
            "|   |",
            "+-+-+",
        )
        self.draws(
            one_cell(3, 3),
            "+-+-+-+",
            "|     |",
            "+     +",
            "|     |",
            "+     +",
            "|     |",
            "+-+-+-+",
        )

    def test_a_border_comes_from_two_sides(self):
        self.draws(
            joined(joined(empty(2, 2), 0, 0, 1, 2), 1, 0, 1, 2),
            "+-+-+",
            "|   |",
            "+-+-+",
            "|   |",
            "+-+-+",
        )
        self.draws(
            joined(joined(empty(2, 2), 0, 0, 2, 1), 0, 1, 2, 1),
            "+-+-+",
            "| | |",
            "+ + +",
            "| | |",
            "+-+-+",
        )

    def test_a_border_comes_from_three_sides(self):
        self.draws(
            joined(empty(2, 2), 0, 0, 1, 2),
            "+-+-+",
            "|   |",
            "+-+-+",
            "| | |",
            "+-+-+",
        )
        self.draws(
            joined(empty(2, 2), 1, 0, 1, 2),
            "+-+-+",
            "| | |",
            "+-+-+",
            "|   |",
            "+-+-+",
        )
        self.draws(
            joined(empty(2, 2), 0, 0, 2, 1),
            "+-+-+",
            "| | |",
            "+ +-+",
            "| | |",
            "+-+-+",
        )
        self.draws(
            joined(empty(2, 2), 0, 1, 2, 1),
            "+-+-+",
            "| | |",
            "+-+ +",
            "| | |",
            "+-+-+",
        )

    def test_a_border_comes_from_four_sides(self):
        self.draws(
            empty(2, 2),
            "+-+-+",
            "| | |",
            "+-+-+",
            "| | |",
            "+-+-+",
        )

    def test_idle_lines_are_seen_at_the_border_around(self):
        self.draws(
            one_cell(1, 3),
            "+-+-+-+",
            "|     |",
            "+-+-+-+",
        )
        self.draws(
            one_cell(3, 1),
            "+-+",
            "| |",
            "+ +",
            "| |",
            "+ +",
            "| |",
            "+-+",
        )

    def test_words_across_the_places_of_lines(self):
        self.draws(
            one_cell(1, 3, "ab", "cd"),
            "+-+-+-+",
            "|ab cd|",
            "+-+-+-+",
        )
        self.draws(
            one_cell(2, 1, "a", "b", "c"),
            "+-+",
            "|a|",
            "+b+",
            "|c|",
            "+-+",
        )
        self.draws(
            one_cell(2, 2, "abc", "def", "ghi"),
            "+-+-+",
            "|abc|",
            "+def+",
            "|ghi|",
            "+-+-+",
        )

    def test_words_beyond_the_lines_make_the_last_row_and_column_greater(self):
        self.draws(
            one_cell(2, 2, "abcd", "efgh", "ijkl", "m"),
            "+-+--+",
            "|abcd|",
            "+efgh+",
            "|ijkl|",
            "|m   |",
            "+-+--+",
        )

    def test_cells_around_a_middle(self):
        self.draws(PINWHEEL, *PINWHEEL_DRAWN)

    def test_cells_over_several_rows_and_columns(self):
        table = (3, 4, [
            (0, 0, 2, 2, ("big", "one")), (0, 2, 1, 2, ("wide", "as", "it", "is")), (1, 2, 1, 1, ()),
            (1, 3, 2, 1, ("tall", "9")), (2, 0, 1, 1, ("a",)), (2, 1, 1, 2, ("bcd", "e", "f")),
        ])
        self.draws(
            table,
            "+-+-+-+----+",
            "|big|wide  |",
            "|one|as it |",
            "|   |is    |",
            "+   +-+----+",
            "|   | |tall|",
            "+-+-+-+9   +",
            "|a|bcd|    |",
            "| |e f|    |",
            "+-+-+-+----+",
        )

    def test_columns_wider_than_a_cell_needs(self):
        self.draws(
            with_words(with_words(empty(2, 1), 0, 0, ("abcdef",)), 1, 0, ("ab", "c", "d", "e")),
            "+------+",
            "|abcdef|",
            "+------+",
            "|ab c d|",
            "|e     |",
            "+------+",
        )

    def test_the_greatest(self):
        words = tuple("abcdefghijkl"[k] * 12 for k in range(12))
        table = (16, 16, [(row, column, 1, 1, words) for row in range(16) for column in range(16)])
        line = "+------------" * 16 + "+\n"
        inner = "".join(f"|{word}" * 16 + "|\n" for word in words)
        self.assertEqual(drawn(table), (line + inner) * 16 + line)
        self.assertEqual(drawn(empty(16, 16)), ("+-" * 16 + "+\n" + "| " * 16 + "|\n") * 16 + "+-" * 16 + "+\n")
        self.assertEqual(drawn(turned(empty(16, 1))), "+-" * 16 + "+\n" + "| " * 16 + "|\n" + "+-" * 16 + "+\n")

    def test_nothing_is_refused_somewhat_beyond(self):
        self.assertEqual(drawn(empty(17, 1)), "+-+\n" + "| |\n+-+\n" * 17)
        self.assertEqual(drawn(one_cell(1, 1, *["a"] * 13)), "+-+\n" + "|a|\n" * 13 + "+-+\n")
        self.assertEqual(drawn(one_cell(1, 1, "a" * 13)), f"+{'-' * 13}+\n|{'a' * 13}|\n+{'-' * 13}+\n")

    def test_many_tables_sign_by_sign(self):
        for table in small_tables() + large_tables() + wordy_tables()[:-3]:
            self.assertEqual(drawn(table), Second(table).text())

    def test_many_tables_have_rows_of_signs_as_their_sizes_ask(self):
        for table in small_tables() + large_tables() + wordy_tables():
            widths, heights = layout(table)
            told = told_afresh(self, drawn, table)
            self.assertTrue(told.endswith("\n"))
            rows = told.split("\n")[:-1]
            self.assertEqual(len(rows), sum(heights) + table[0] + 1)
            self.assertEqual({len(row) for row in rows}, {sum(widths) + table[1] + 1})

    def test_where_lines_meet(self):
        # From one side alone no border can come: if three of the four neighbours' pairs are of one cell, all are.
        seen = {}
        for table in small_tables():
            second = Second(table)
            rows = drawn(table).split("\n")
            for y, (on_row_line, row) in enumerate(second.down):
                for x, (on_column_line, column) in enumerate(second.across):
                    if on_row_line and on_column_line:
                        seen.setdefault(second.sides(row, column), set()).add(rows[y][x] == "+")
        self.assertEqual(seen.pop(0), {False})
        self.assertEqual(seen, {2: {True}, 3: {True}, 4: {True}})


if __name__ == "__main__":
    unittest.main()
