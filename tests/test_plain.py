import unittest

from gridframe.errors import BadPlain, GridError
from gridframe.plain import plain, read_plain
from gridframe.tables import empty, with_words
from tests.helper import (
    PINWHEEL, chooser, chosen_words, is_plain_table, is_read, large_tables, no_texts, one_cell, refused, small_tables,
    told_afresh, with_other_line_ends, wordy_tables,
)

OTHER_NUMBERS = (
    "", "00", "01", "001", "+1", "-1", "-0", "+0", "1.0", "1.", "1e0", "1_0", "0x1", "0b1", "a", "one", "1a", "\u0661",
    "\u00b9", "\uff11", "\u2460", "\u0967", "\u00bd", "\u4e00", "1\u0661", "\t1", "1\t", "\u00a01", "1\r", "1,", "true",
    "True", "None", "9" * 5000, "0" * 5000 + "1", "17", "99", "100", "1" * 30,
)


def second(table):
    """The plain text, number by number."""
    text = f"{table[0]} {table[1]}\n"
    for top, left, height, width, words in table[2]:
        text += f"{top} {left} {height} {width}"
        for word in words:
            text += f" {word}"
        text += "\n"
    return text


class Plainly(unittest.TestCase):
    def writes(self, table, text):
        self.assertEqual(told_afresh(self, plain, table), text)
        self.assertEqual(told_afresh(self, read_plain, text), table)

    def refuses(self, thing):
        error = refused(self, BadPlain, read_plain, thing)
        self.assertIsInstance(error, GridError)

    def refuses_or_reads_back(self, text):
        return is_read(self, BadPlain, read_plain, plain, text)


class Tables(Plainly):
    def test_one_cell(self):
        self.writes(one_cell(1, 1), "1 1\n0 0 1 1\n")
        self.writes(one_cell(1, 1, "a"), "1 1\n0 0 1 1 a\n")
        self.writes(one_cell(1, 1, "hello", "there", "9"), "1 1\n0 0 1 1 hello there 9\n")
        self.writes(one_cell(3, 16, "a"), "3 16\n0 0 3 16 a\n")

    def test_several_cells(self):
        self.writes(
            with_words(with_words(empty(2, 2), 0, 1, ("a", "b")), 1, 0, ("0",)),
            "2 2\n0 0 1 1\n0 1 1 1 a b\n1 0 1 1 0\n1 1 1 1\n",
        )
        self.writes(PINWHEEL, "3 3\n0 0 1 2 a\n0 2 2 1 b\n1 0 2 1 c\n1 1 1 1 d\n2 1 1 2 e\n")

    def test_words_of_figures(self):
        self.writes(one_cell(1, 1, "0", "00", "007", "17", "999999999999"), "1 1\n0 0 1 1 0 00 007 17 999999999999\n")

    def test_twelve_words_of_twelve_signs(self):
        words = tuple("abcdefghijkl"[k] * 12 for k in range(12))
        self.writes(one_cell(1, 1, *words), "1 1\n0 0 1 1 " + " ".join(words) + "\n")

    def test_sixteen_rows_and_columns(self):
        self.writes(empty(16, 16), "16 16\n" + "".join(f"{k // 16} {k % 16} 1 1\n" for k in range(256)))
        self.writes(one_cell(16, 16), "16 16\n0 0 16 16\n")

    def test_every_small_table(self):
        chosen = chooser(41)
        for table in small_tables():
            wordy = (table[0], table[1], [cell[:4] + (chosen_words(chosen(13), chosen),) for cell in table[2]])
            for some in (table, wordy):
                self.writes(some, second(some))

    def test_large_tables(self):
        for table in large_tables() + wordy_tables():
            self.writes(table, second(table))

    def test_nothing_is_refused_in_writing_somewhat_beyond(self):
        self.assertEqual(plain(one_cell(17, 18, *["a" * 13] * 13)), "17 18\n0 0 17 18" + (" " + "a" * 13) * 13 + "\n")

    def test_the_table_is_plain(self):
        for table in (PINWHEEL, one_cell(1, 1), wordy_tables()[4]):
            self.assertTrue(is_plain_table(read_plain(plain(table))))


class NoPlainTexts(Plainly):
    def test_things_that_are_no_text(self):
        for thing in no_texts(plain(PINWHEEL)):
            with self.subTest(thing=repr(thing)):
                with self.assertRaises(BadPlain):
                    read_plain(thing)

    def test_texts_that_are_far_off(self):
        for text in ("", "\n", "\n\n", " ", " \n", "1", "1\n", "1 1", "1 1\n", "1 1 \n", "1 1 1\n", "a", "a b\n",
                     "table", "+-+\n| |\n+-+\n", "\ud800\n", "\0\n", "1 1 0 0 1 1\n", "0 0 1 1\n", "0 0 1 1\n1 1\n",
                     "1\n1\n0\n0\n1\n1\n", "(1, 1, [(0, 0, 1, 1, ())])\n", "1 1\n" * 5000, "1 1 " * 5000 + "\n"):
            with self.subTest(text=text[:30]):
                self.refuses(text)

    def test_line_ends(self):
        for table in (one_cell(1, 1), one_cell(1, 1, "a"), PINWHEEL):
            for text in with_other_line_ends(plain(table)):
                self.refuses(text)

    def test_blanks(self):
        self.writes(one_cell(1, 1, "a", "b"), "1 1\n0 0 1 1 a b\n")
        self.refuses("1  1\n0 0 1 1 a b\n")
        self.refuses(" 1 1\n0 0 1 1 a b\n")
        self.refuses("1 1 \n0 0 1 1 a b\n")
        self.refuses("1 1\n 0 0 1 1 a b\n")
        self.refuses("1 1\n0  0 1 1 a b\n")
        self.refuses("1 1\n0 0 1  1 a b\n")
        self.refuses("1 1\n0 0 1 1  a b\n")
        self.refuses("1 1\n0 0 1 1 a  b\n")
        self.refuses("1 1\n0 0 1 1 a b \n")
        self.refuses("1 1\n0 0 1 1 \n")
        self.refuses("11\n0 0 1 1 a b\n")
        self.refuses("1 1\n0 01 1 a b\n")
        self.refuses("1 1\n0 0 1 1a b\n")

    def test_other_blanks(self):
        for blank in ("\t", "\u00a0", "\u2003", "\u3000", "\v", "\f", "\r", "\x1c", "\x85", "\u200b", "\0", ",", "_"):
            text = "1 1\n0 0 1 1 a b\n"
            for at, sign in enumerate(text):
                if sign == " ":
                    self.refuses(text[:at] + blank + text[at + 1:])
                    self.refuses(text[:at] + blank + text[at:])

    def test_numbers_written_otherwise(self):
        for number in OTHER_NUMBERS:
            with self.subTest(number=number[:20]):
                self.refuses(f"{number} 1\n0 0 1 1\n")
                self.refuses(f"1 {number}\n0 0 1 1\n")
                self.refuses(f"1 1\n{number} 0 1 1\n")
                self.refuses(f"1 1\n0 {number} 1 1\n")
                self.refuses(f"1 1\n0 0 {number} 1\n")
                self.refuses(f"1 1\n0 0 1 {number}\n")

    def test_noughts_ahead_of_two_figures(self):
        self.writes(one_cell(12, 10), "12 10\n0 0 12 10\n")
        for text in ("012 10\n0 0 12 10\n", "12 010\n0 0 12 10\n", "12 10\n0 0 012 10\n", "12 10\n00 0 12 10\n"):
            self.refuses(text)

    def test_numbers_beyond_the_bounds(self):
        self.refuses("0 1\n")
        self.refuses("1 0\n")
        self.refuses("0 1\n0 0 1 1\n")
        self.refuses("1 1\n0 0 0 1\n")
        self.refuses("1 1\n0 0 1 0\n")
        self.refuses("1 1\n0 0 1 1\n1 0 1 1\n")
        for rows, columns in ((17, 1), (1, 17), (17, 17), (100, 1), (1, 100)):
            self.refuses(plain(one_cell(rows, columns)))
            self.refuses(plain(empty(rows, columns)))

    def test_too_few_or_too_many_numbers(self):
        self.refuses("1\n0 0 1 1\n")
        self.refuses("1 1 1\n0 0 1 1\n")
        self.refuses("1 1 a\n0 0 1 1\n")
        self.refuses("1 1\n0 0 1\n")
        self.refuses("1 1\n0 0\n")
        self.refuses("1 1\n\n")
        self.refuses("1 1\n0 0 1 a\n")

    def test_words_that_are_none(self):
        self.refuses(plain(one_cell(1, 1, *["a"] * 13)))
        self.refuses(plain(one_cell(1, 1, *["a"] * 40)))
        self.refuses(plain(one_cell(1, 1, "a" * 13)))
        self.refuses(plain(one_cell(1, 1, "b", "a" * 1000)))
        for sign in "AZ\u00e4\u00df\u0430\u0663\u00b2\uff11!_.,:=#*~+-|'\"\\":
            self.refuses(f"1 1\n0 0 1 1 {sign}\n")
            self.refuses(f"1 1\n0 0 1 1 a a{sign}b\n")

    def test_cells_that_make_no_table(self):
        self.writes((1, 2, [(0, 0, 1, 1, ()), (0, 1, 1, 1, ())]), "1 2\n0 0 1 1\n0 1 1 1\n")
        self.refuses("1 2\n0 0 1 2\n0 1 1 1\n")
        self.refuses("1 2\n0 0 1 1\n0 0 1 1\n0 1 1 1\n")
        self.refuses("1 2\n0 0 1 1\n0 1 1 2\n")
        self.refuses("1 2\n0 0 2 1\n0 1 1 1\n")
        self.refuses("1 2\n0 0 1 1\n")
        self.refuses("1 2\n0 1 1 1\n")
        self.refuses("1 2\n")
        self.refuses("1 2\n0 1 1 1\n0 0 1 1\n")
        self.refuses("2 2\n0 0 1 1\n1 0 1 1\n0 1 1 1\n1 1 1 1\n")


class NearPlainTexts(Plainly):
    def texts(self):
        tables = [one_cell(1, 1), one_cell(1, 1, "a", "b"), one_cell(10, 16, "0", "12"), empty(2, 2), PINWHEEL,
                  (1, 11, [(0, 0, 1, 10, ("x1",)), (0, 10, 1, 1, ("y", "22"))])]
        return [plain(table) for table in tables]

    def test_one_sign_left_out_doubled_or_changed(self):
        read_back = 0
        for text in self.texts():
            for at in range(len(text)):
                self.refuses_or_reads_back(text[:at] + text[at + 1:])
                self.refuses_or_reads_back(text[:at] + text[at] + text[at:])
                for sign in "0123456789 \n\t\r+-_aA\u0661":
                    read_back += sign != text[at] and self.refuses_or_reads_back(text[:at] + sign + text[at + 1:])
        self.assertGreater(read_back, 20)

    def test_a_row_left_out_doubled_or_changed_for_another(self):
        for text in self.texts():
            rows = [row + "\n" for row in text.split("\n")[:-1]]
            for at in range(len(rows)):
                self.refuses("".join(rows[:at] + rows[at + 1:]))
                self.refuses("".join(rows[:at] + [rows[at]] + rows[at:]))
            for at in range(1, len(rows)):
                self.refuses("".join(rows[:at - 1] + [rows[at], rows[at - 1]] + rows[at + 1:]))

    def test_short_rows_of_figures_in_every_way(self):
        # Which texts of two rows of figures 0 to 2 are tables of one cell is plain: nought, nought, and as above.
        read_back = []
        for choice in range(3 ** 6):
            figures = [str(choice // 3 ** at % 3) for at in range(6)]
            text = " ".join(figures[:2]) + "\n" + " ".join(figures[2:]) + "\n"
            if self.refuses_or_reads_back(text):
                read_back.append(text)
        self.assertEqual(sorted(read_back), ["1 1\n0 0 1 1\n", "1 2\n0 0 1 2\n", "2 1\n0 0 2 1\n", "2 2\n0 0 2 2\n"])


if __name__ == "__main__":
    unittest.main()
