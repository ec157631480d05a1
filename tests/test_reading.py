import unittest

from gridframe.bands import tight
from gridframe.blocks import joined
from gridframe.deeds import turned
from gridframe.drawing import drawn
from gridframe.errors import BadDrawing, GridError
from gridframe.reading import read
from gridframe.tables import empty, with_words
from tests.helper import (
    PINWHEEL, PINWHEEL_DRAWN, chooser, chosen_words, is_plain_table, is_read, large_tables, no_texts, one_cell, refused,
    small_tables, told_afresh, with_other_line_ends, wordy_tables,
)


def joined_rows(*rows):
    return "".join(row + "\n" for row in rows)


class Reading(unittest.TestCase):
    def comes_back(self, table):
        self.assertEqual(told_afresh(self, read, drawn(table)), table)

    def reads(self, table, *rows):
        self.assertEqual(told_afresh(self, read, joined_rows(*rows)), table)

    def refuses(self, thing):
        error = refused(self, BadDrawing, read, thing)
        self.assertIsInstance(error, GridError)

    def refuses_rows(self, *rows):
        self.refuses(joined_rows(*rows))

    def refuses_or_reads_back(self, text):
        return is_read(self, BadDrawing, read, drawn, text)


class Tables(Reading):
    def test_one_cell(self):
        self.reads(one_cell(1, 1), "+-+", "| |", "+-+")
        self.reads(one_cell(1, 1, "a"), "+-+", "|a|", "+-+")
        self.reads(one_cell(1, 1, "abc", "0", "z"), "+---+", "|abc|", "|0 z|", "+---+")

    def test_cells_of_one_place(self):
        self.reads(empty(1, 2), "+-+-+", "| | |", "+-+-+")
        self.reads(empty(2, 1), "+-+", "| |", "+-+", "| |", "+-+")
        self.reads(
            with_words(empty(2, 2), 1, 0, ("xy",)),
            "+--+-+",
            "|  | |",
            "+--+-+",
            "|xy| |",
            "+--+-+",
        )

    def test_idle_lines(self):
        self.reads(one_cell(1, 2), "+-+-+", "|   |", "+-+-+")
        self.reads(one_cell(2, 1), "+-+", "| |", "+ +", "| |", "+-+")
        self.reads(one_cell(2, 2, "abc", "d"), "+-+-+", "|abc|", "+d  +", "|   |", "+-+-+")
        self.reads(
            (2, 3, [(0, 0, 2, 1, ()), (0, 1, 2, 2, ("a", "b", "cde"))]),
            "+-+-+-+",
            "| |a b|",
            "+ +cde+",
            "| |   |",
            "+-+-+-+",
        )

    def test_cells_around_a_middle(self):
        self.reads(PINWHEEL, *PINWHEEL_DRAWN)

    def test_every_small_table(self):
        chosen = chooser(31)
        idle = 0
        for table in small_tables():
            bare = (table[0], table[1], [cell[:4] + ((),) for cell in table[2]])
            wordy = (table[0], table[1], [cell[:4] + (chosen_words(chosen(13), chosen),) for cell in table[2]])
            idle += tight(table) != table
            for some in (table, bare, wordy):
                self.comes_back(some)
        self.assertGreater(idle, 20)
        self.assertGreater(len(small_tables()) - idle, 20)

    def test_large_tables(self):
        for table in large_tables() + wordy_tables():
            self.comes_back(table)
            self.comes_back(tight(table))

    def test_the_greatest(self):
        words = tuple("abcdefghijkl"[k] * 12 for k in range(12))
        self.comes_back((16, 16, [(row, column, 1, 1, words) for row in range(16) for column in range(16)]))
        self.comes_back(one_cell(16, 16, *words))
        self.comes_back(empty(16, 16))
        self.comes_back(one_cell(16, 1))
        self.comes_back(one_cell(1, 16))

    def test_words_of_figures_and_words_alike(self):
        self.comes_back(one_cell(1, 1, "0", "00", "0", "9"))
        self.comes_back(one_cell(2, 3, "a", "a", "a", "a", "a", "a"))

    def test_no_two_small_tables_are_drawn_alike(self):
        tables = [table[:2] + ([cell[:4] + ((),) for cell in table[2]],) for table in small_tables()]
        texts = [drawn(table) for table in tables]
        self.assertEqual(len(set(texts)), len(texts))

    def test_the_table_is_plain(self):
        for table in (PINWHEEL, one_cell(1, 1), wordy_tables()[4]):
            self.assertTrue(is_plain_table(read(drawn(table))))


class NoDrawings(Reading):
    def test_things_that_are_no_text(self):
        for thing in no_texts(drawn(PINWHEEL)):
            with self.subTest(thing=repr(thing)):
                with self.assertRaises(BadDrawing):
                    read(thing)

    def test_texts_that_are_far_off(self):
        for text in ("", "\n", "\n\n", " ", " \n", "a", "a\n", "+", "+\n", "++\n", "++\n++\n", "+\n+\n", "-\n",
                     "|\n", "+-+\n", "+-+", "+-+\n+-+\n", "+ +\n| |\n+ +\n", "++\n||\n++\n", "+-\n| \n+-\n", "+|\n+|\n",
                     "table", "1 1\n0 0 1 1\n", "+-+\n\n+-+\n", "   \n   \n   \n", "+++\n+++\n+++\n", "+" * 5000 + "\n",
                     "+\n" * 5000, "\ud800\n", "\0\n", "+-+\r\n| |\r\n+-+\r\n", "+-+\r| |\r+-+\r"):
            with self.subTest(text=text[:30]):
                self.refuses(text)

    def test_line_ends(self):
        for table in (one_cell(1, 1), PINWHEEL, one_cell(2, 3, "a", "b")):
            for text in with_other_line_ends(drawn(table)):
                self.refuses(text)

    def test_rows_of_other_lengths(self):
        self.refuses_rows("+-+", "|a|", "+-+ ")
        self.refuses_rows("+-+ ", "|a|", "+-+")
        self.refuses_rows("+-+", "|a", "+-+")
        self.refuses_rows("+-+", "|", "+-+")
        self.refuses_rows("+-+", "", "+-+")
        self.refuses_rows("+-+ ", "|a| ", "+-+ ")
        self.refuses_rows(" +-+", " |a|", " +-+")
        self.refuses_rows("+-+-+", "|a|", "+-+-+")

    def test_tabs_and_other_blanks(self):
        for blank in ("\t", "\u00a0", "\u2003", "\u3000", "\v", "\f", "\r", "\x1c", "\x85", "\u200b", "\0", "_", "."):
            self.refuses_rows("+-+", f"|{blank}|", "+-+")
            self.refuses_rows("+-+-+", f"|a{blank}b|", "+-+-+")
            self.refuses_rows("+---+", "|abc|", f"|d{blank}e|", "+---+")

    def test_great_letters_and_other_signs(self):
        for sign in "AZ\u00e4\u00df\u0430\u0663\u00b2\uff11!_.,:=#*~\u2500\u2502":
            self.refuses_rows("+-+", f"|{sign}|", "+-+")
            self.refuses_rows("+--+", f"|a{sign}|", "+--+")

    def test_signs_of_borders_within_cells(self):
        for sign in "+-|":
            self.refuses_rows("+-+", f"|{sign}|", "+-+")
            self.refuses_rows("+---+", f"|a{sign}b|", "+---+")
            self.refuses_rows("+-+-+", f"| {sign} |", "+ + +", "|   |", "+-+-+")
            self.refuses_rows("+-+-+", "|   |", f"+ {sign} +", "|   |", "+-+-+")
            self.refuses_rows("+-+-+", "|   |", f"+{sign}  +", "|   |", "+-+-+")

    def test_too_many_rows_or_columns(self):
        self.assertEqual(read("+-+\n" + "| |\n+-+\n" * 16), empty(16, 1))
        self.refuses("+-+\n" + "| |\n+-+\n" * 17)
        self.refuses("+-+\n" + "| |\n+ +\n" * 16 + "| |\n+-+\n")
        line, inner = "+" + "-+" * 16 + "\n", "|" + " |" * 16 + "\n"
        self.assertEqual(read(line + inner + line), empty(1, 16))
        line, inner = "+" + "-+" * 17 + "\n", "|" + " |" * 17 + "\n"
        self.refuses(line + inner + line)
        self.refuses(line + "|" + " " * 33 + "|\n" + line)
        for table in (empty(17, 17), empty(17, 1), empty(1, 17), empty(16, 17), one_cell(17, 17, "a"), empty(40, 40)):
            self.refuses(drawn(table))

    def test_too_many_or_too_long_words(self):
        self.assertEqual(read("+-+\n" + "|a|\n" * 12 + "+-+\n"), one_cell(1, 1, *["a"] * 12))
        self.refuses("+-+\n" + "|a|\n" * 13 + "+-+\n")
        self.assertEqual(read(f"+{'-' * 12}+\n|{'a' * 12}|\n+{'-' * 12}+\n"), one_cell(1, 1, "a" * 12))
        self.refuses(f"+{'-' * 13}+\n|{'a' * 13}|\n+{'-' * 13}+\n")
        for words in (["a"] * 13, ["b", "a" * 13], ["a"] * 40):
            for rows, columns in ((1, 1), (2, 2), (16, 16)):
                self.refuses(drawn(one_cell(rows, columns, *words)))

    def test_words_that_stand_otherwise(self):
        self.reads(one_cell(1, 1, "abcdefg", "h", "i"), "+-------+", "|abcdefg|", "|h i    |", "+-------+")
        self.refuses_rows("+-------+", "|abcdefg|", "|h  i   |", "+-------+")
        self.refuses_rows("+-------+", "|abcdefg|", "| h i   |", "+-------+")
        self.refuses_rows("+-------+", "|abcdefg|", "|    h i|", "+-------+")
        self.refuses_rows("+-------+", "|h i    |", "|       |", "|abcdefg|", "+-------+")
        self.refuses_rows("+-------+", "|abcdefg|", "|h      |", "|i      |", "+-------+")
        self.refuses_rows("+-------+", "|       |", "|abcdefg|", "|h i    |", "+-------+")
        self.refuses_rows("+-------+", "|abcdefg|", "|       |", "|h i    |", "+-------+")
        self.refuses_rows("+-+-+", "| ab|", "+-+-+")
        self.refuses_rows("+-+", "| |", "+a+", "| |", "+-+")
        self.refuses_rows("+-+", "| |", "+ +", "|a|", "+-+")
        self.refuses_rows("+-+", "|a|", "+ +", "|b|", "+-+")

    def test_words_parted_or_run_together(self):
        self.refuses_rows("+--+", "|a |", "|b |", "+--+")
        self.refuses_rows("+-+-+", "|a  |", "+b  +", "|   |", "+-+-+")
        self.reads(one_cell(2, 2, "a", "b"), "+-+-+", "|a b|", "+   +", "|   |", "+-+-+")

    def test_columns_or_rows_greater_than_they_need(self):
        self.refuses_rows("+--+", "|  |", "+--+")
        self.refuses_rows("+--+", "|a |", "+--+")
        self.refuses_rows("+-+", "|a|", "| |", "+-+")
        self.refuses_rows("+-+", "| |", "| |", "+-+")
        self.refuses_rows("+-+--+", "|a|b |", "+-+--+")
        self.refuses_rows("+-+", "|a|", "+-+", "|b|", "| |", "+-+")
        self.refuses_rows("+-+--+", "|    |", "+-+--+")

    def test_sizes_of_cells_that_span_are_the_least_from_the_first_on(self):
        self.reads(one_cell(1, 2, "abcde"), "+-+---+", "|abcde|", "+-+---+")
        self.refuses_rows("+---+-+", "|abcde|", "+---+-+")
        self.refuses_rows("+--+--+", "|abcde|", "+--+--+")
        self.reads(one_cell(2, 1, "a", "b", "c", "d"), "+-+", "|a|", "+b+", "|c|", "|d|", "+-+")
        self.refuses_rows("+-+", "|a|", "|b|", "+c+", "|d|", "+-+")

    def test_columns_or_rows_less_than_they_need(self):
        self.refuses_rows("++", "||", "++")
        self.refuses_rows("+-++", "| ||", "+-++")
        self.refuses_rows("++-+", "|| |", "++-+")
        self.refuses_rows("+-+", "+-+", "| |", "+-+")
        self.refuses_rows("+-+", "| |", "+-+", "+-+")

    def test_borders_that_end_nowhere(self):
        self.refuses_rows("+-+-+", "| | |", "+ + +", "|   |", "+-+-+")
        self.refuses_rows("+-+-+", "|   |", "+ +-+", "|   |", "+-+-+")
        self.refuses_rows("+-+-+", "|   |", "+-+ +", "|   |", "+-+-+")
        self.refuses_rows("+-+-+", "|   |", "+ + +", "| | |", "+-+-+")
        self.refuses_rows("+-+-+", "| | |", "+ +-+", "|   |", "+-+-+")
        self.refuses_rows("+-+-+", "| | |", "+-+ +", "|   |", "+-+-+")
        self.refuses_rows("+-+-+", "|   |", "+-+ +", "| | |", "+-+-+")
        self.refuses_rows("+-+-+", "|   |", "+ +-+", "| | |", "+-+-+")

    def test_a_border_around_that_is_not_whole(self):
        for at in range(25):
            text = "+-+-+\n|   |\n+   +\n|   |\n+-+-+\n"
            row, column = at // 5, at % 5
            if row in (0, 4) or column in (0, 4):
                place = row * 6 + column
                self.refuses(text[:place] + " " + text[place + 1:])

    def test_where_lines_meet_the_sign_is_as_it_must_be(self):
        self.refuses_rows("+-+-+", "|   |", "+ + +", "|   |", "+-+-+")
        self.refuses_rows("+-+-+", "|   |", "+---+", "|   |", "+-+-+")
        self.refuses_rows("+-+-+", "| | |", "+ | +", "| | |", "+-+-+")
        self.refuses_rows("+---+", "|   |", "+-+-+")
        self.refuses_rows("+-+-+", "|   |", "+---+")


class NearDrawings(Reading):
    def drawings(self):
        tables = [
            one_cell(1, 1), one_cell(1, 1, "a"), one_cell(1, 1, "ab", "c"), one_cell(2, 2),
            one_cell(2, 3, "ab", "c", "d"), empty(2, 2), PINWHEEL, joined(empty(3, 3), 0, 0, 2, 2),
            turned(joined(empty(2, 3), 0, 1, 2, 2)),
            (2, 2, [(0, 0, 1, 1, ("abc", "d", "e")), (0, 1, 2, 1, ("xy", "z")), (1, 0, 1, 1, ("q", "r", "s"))]),
        ]
        return [drawn(table) for table in tables]

    def test_one_sign_left_out(self):
        for text in self.drawings():
            for at in range(len(text)):
                self.assertFalse(self.refuses_or_reads_back(text[:at] + text[at + 1:]))

    def test_one_sign_doubled(self):
        for text in self.drawings():
            for at in range(len(text)):
                self.assertFalse(self.refuses_or_reads_back(text[:at] + text[at] + text[at:]))

    def test_another_sign_put_in(self):
        read_back = 0
        for text in self.drawings():
            for at in range(len(text)):
                for sign in "+-| \n\t\ra0Az_":
                    if sign != text[at]:
                        read_back += self.refuses_or_reads_back(text[:at] + sign + text[at + 1:])
        self.assertGreater(read_back, 20)

    def test_another_letter_is_another_word(self):
        for text in self.drawings():
            for at, sign in enumerate(text):
                if sign.isalnum():
                    self.assertTrue(self.refuses_or_reads_back(text[:at] + "9" + text[at + 1:]))

    def test_two_other_signs_put_in(self):
        chosen = chooser(5)
        for text in self.drawings():
            for _ in range(400):
                changed = list(text)
                for _ in range(2):
                    changed[chosen(len(text))] = "+-| a\n"[chosen(6)]
                self.refuses_or_reads_back("".join(changed))

    def test_a_row_or_a_column_of_signs_left_out_or_doubled(self):
        for text in self.drawings():
            rows = text.split("\n")[:-1]
            for at in range(len(rows)):
                self.refuses_or_reads_back(joined_rows(*rows[:at], *rows[at + 1:]))
                self.refuses_or_reads_back(joined_rows(*rows[:at], rows[at], *rows[at:]))
            for at in range(len(rows[0])):
                self.refuses_or_reads_back(joined_rows(*[row[:at] + row[at + 1:] for row in rows]))
                self.refuses_or_reads_back(joined_rows(*[row[:at] + row[at:at + 1] + row[at:] for row in rows]))

    def test_blocks_of_border_signs_in_every_way(self):
        # Each inner border of two rows and two columns is there or not; only the drawings of tables are read.
        read_back = []
        for choice in range(2 ** 5):
            up, left, right, down, cross = [sign if choice >> bit & 1 else " " for bit, sign in enumerate("|--|+")]
            text = joined_rows("+-+-+", f"| {up} |", f"+{left}{cross}{right}+", f"| {down} |", "+-+-+")
            if self.refuses_or_reads_back(text):
                read_back.append(read(text))
        tables = [(2, 2, [cell[:4] + ((),) for cell in cells]) for rows, columns, cells in small_tables()
                  if (rows, columns) == (2, 2)]
        self.assertEqual(len(tables), 8)
        self.assertEqual(sorted(read_back), sorted(tables))


if __name__ == "__main__":
    unittest.main()
