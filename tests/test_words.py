import itertools
import textwrap
import unittest

from gridframe.blocks import joined
from gridframe.tables import empty, with_words
from gridframe.words import column_spans, filled, layout, row_spans
from tests.helper import PINWHEEL, large_tables, one_cell, small_tables, told_afresh, wordy_tables

TWELVE = tuple("abcdefghijkl"[k] * 12 for k in range(12))


def texts(table):
    return [" ".join(cell[4]) for cell in table[2]]


class Filled(unittest.TestCase):
    def tells(self, expected, words, width):
        self.assertEqual(told_afresh(self, filled, words, width), expected)

    def test_no_words_fill_no_row(self):
        for width in (1, 2, 12, 200):
            self.tells([], (), width)

    def test_one_word(self):
        self.tells(["a"], ("a",), 1)
        self.tells(["a"], ("a",), 5)
        self.tells(["abcdefghijkl"], ("abcdefghijkl",), 12)

    def test_words_that_fill_a_row_to_its_last_sign(self):
        self.tells(["ab cd"], ("ab", "cd"), 5)
        self.tells(["a b c", "d"], ("a", "b", "c", "d"), 5)
        self.tells(["a b c", "d e f"], ("a", "b", "c", "d", "e", "f"), 5)

    def test_a_word_that_would_go_one_sign_beyond(self):
        self.tells(["ab", "cde"], ("ab", "cde"), 5)
        self.tells(["ab", "cd"], ("ab", "cd"), 4)
        self.tells(["a b", "c"], ("a", "b", "c"), 4)

    def test_the_width_of_the_longest_word(self):
        self.tells(["abc"], ("abc",), 3)
        self.tells(["a", "abc", "b"], ("a", "abc", "b"), 3)
        self.tells(["a b", "abc", "b c"], ("a", "b", "abc", "b", "c"), 3)
        self.tells(["a", "b", "c"], ("a", "b", "c"), 1)

    def test_a_short_word_does_not_go_back_to_a_row_with_room(self):
        self.tells(["abc", "defgh", "i"], ("abc", "defgh", "i"), 5)

    def test_twelve_words_of_twelve_signs(self):
        self.tells(list(TWELVE), TWELVE, 12)
        self.tells(list(TWELVE), TWELVE, 24)
        self.tells([" ".join(TWELVE[k:k + 2]) for k in range(0, 12, 2)], TWELVE, 25)
        self.tells([" ".join(TWELVE)], TWELVE, 12 * 13 - 1)
        self.tells([" ".join(TWELVE[:11]), TWELVE[11]], TWELVE, 12 * 13 - 2)

    def test_words_alike(self):
        self.tells(["a a", "a"], ("a", "a", "a"), 4)

    def test_many_words_as_another_way_wraps_them(self):
        for count in range(1, 6):
            for lengths in itertools.product((1, 2, 3), repeat=count):
                words = tuple("abcde"[at] * length for at, length in enumerate(lengths))
                for width in range(max(lengths), 13):
                    self.assertEqual(filled(words, width), textwrap.wrap(" ".join(words), width))


class Spans(unittest.TestCase):
    def test_columns_of_one_cell(self):
        self.assertEqual(column_spans(one_cell(1, 1)), [(0, 1, 0)])
        self.assertEqual(column_spans(one_cell(1, 1, "abc", "de")), [(0, 1, 3)])
        self.assertEqual(column_spans(one_cell(2, 3, "de", "abc", "f")), [(0, 3, 3)])
        self.assertEqual(column_spans(one_cell(16, 16, *TWELVE)), [(0, 16, 12)])

    def test_columns_in_order_of_the_cells(self):
        table = with_words(with_words(empty(2, 2), 1, 0, ("ab",)), 0, 1, ("c", "defg"))
        self.assertEqual(column_spans(table), [(0, 1, 0), (1, 2, 4), (0, 1, 2), (1, 2, 0)])
        self.assertEqual(column_spans(PINWHEEL), [(0, 2, 1), (2, 3, 1), (0, 1, 1), (1, 2, 1), (1, 3, 1)])

    def test_rows_of_one_cell(self):
        self.assertEqual(row_spans(one_cell(1, 1), [1]), [(0, 1, 0)])
        self.assertEqual(row_spans(one_cell(1, 1, "abc", "de"), [3]), [(0, 1, 2)])
        self.assertEqual(row_spans(one_cell(1, 1, *TWELVE), [12]), [(0, 1, 12)])
        self.assertEqual(row_spans(one_cell(4, 1, *TWELVE), [12]), [(0, 4, 12)])

    def test_rows_at_widths_that_are_more_than_the_least(self):
        table = one_cell(1, 1, "abc", "de")
        self.assertEqual(row_spans(table, [5]), [(0, 1, 2)])
        self.assertEqual(row_spans(table, [6]), [(0, 1, 1)])
        self.assertEqual(row_spans(table, [40]), [(0, 1, 1)])
        self.assertEqual(row_spans(one_cell(1, 1, *TWELVE), [25]), [(0, 1, 6)])

    def test_a_cell_has_the_lines_between_its_columns_for_its_words(self):
        self.assertEqual(row_spans(one_cell(1, 2, "a", "b"), [1, 1]), [(0, 1, 1)])
        self.assertEqual(row_spans(one_cell(1, 3, "ab", "cd"), [1, 1, 1]), [(0, 1, 1)])
        self.assertEqual(row_spans(one_cell(1, 3, "ab", "cde"), [1, 1, 1]), [(0, 1, 2)])
        self.assertEqual(row_spans(one_cell(1, 3, "ab", "cde"), [1, 2, 1]), [(0, 1, 1)])

    def test_a_cell_has_its_own_columns_alone(self):
        table = joined(empty(2, 4), 0, 1, 2, 2)
        table = with_words(table, 0, 1, ("abc", "de"))
        told = {at: row_spans(table, list(at))[1] for at in ((9, 1, 1, 9), (9, 2, 3, 9), (1, 3, 2, 1), (9, 2, 2, 9))}
        self.assertEqual(told, {
            (9, 1, 1, 9): (0, 2, 2), (9, 2, 3, 9): (0, 2, 1), (1, 3, 2, 1): (0, 2, 1), (9, 2, 2, 9): (0, 2, 2),
        })

    def test_rows_in_order_of_the_cells(self):
        table = with_words(with_words(empty(2, 2), 1, 0, ("ab", "c")), 0, 1, ("c", "defg", "h"))
        self.assertEqual(row_spans(table, [2, 4]), [(0, 1, 0), (0, 1, 3), (1, 2, 2), (1, 2, 0)])
        self.assertEqual(row_spans(table, [4, 6]), [(0, 1, 0), (0, 1, 2), (1, 2, 1), (1, 2, 0)])
        self.assertEqual(row_spans(PINWHEEL, [1, 1, 1]), [(0, 1, 1), (0, 2, 1), (1, 3, 1), (1, 2, 1), (2, 3, 1)])

    def test_many_tables(self):
        for table in small_tables() + large_tables() + wordy_tables():
            rows, columns, cells = table
            told = told_afresh(self, column_spans, table)
            self.assertEqual(len(told), len(cells))
            for cell, span in zip(cells, told):
                need = sorted([0] + [len(word) for word in cell[4]])[-1]
                self.assertEqual(span, (cell[1], cell[1] + cell[3], need))
            for more in (12, 14):
                widths = [more + column % 3 for column in range(columns)]
                told = told_afresh(self, row_spans, table, widths)
                self.assertEqual(len(told), len(cells))
                for cell, span, text in zip(cells, told, texts(table)):
                    room = len("|".join("x" * width for width in widths[cell[1]:cell[1] + cell[3]]))
                    self.assertEqual(span, (cell[0], cell[0] + cell[2], len(textwrap.wrap(text, room))))


class Layout(unittest.TestCase):
    def tells(self, table, widths, heights):
        self.assertEqual(told_afresh(self, layout, table), (widths, heights))

    def test_one_cell(self):
        self.tells(one_cell(1, 1), [1], [1])
        self.tells(one_cell(1, 1, "a"), [1], [1])
        self.tells(one_cell(1, 1, "abc"), [3], [1])
        self.tells(one_cell(1, 1, "abc", "d", "e"), [3], [2])
        self.tells(one_cell(1, 1, *TWELVE), [12], [12])

    def test_a_cell_over_several_slots_gives_the_last_one_what_is_lacking(self):
        self.tells(one_cell(1, 3, "abcdefg"), [1, 1, 3], [1])
        self.tells(one_cell(3, 1, "a", "b", "c", "d", "e", "f"), [1], [1, 1, 2])
        self.tells(one_cell(3, 3, "abcdefghijkl"), [1, 1, 8], [1, 1, 1])

    def test_a_cell_over_several_slots_that_have_room(self):
        self.tells(one_cell(2, 2, "abc", "def", "ghi"), [1, 1], [1, 1])
        self.tells(one_cell(16, 16, *TWELVE), [1] * 16, [1] * 16)
        self.tells(one_cell(16, 16, *["a"] * 12), [1] * 16, [1] * 16)

    def test_cells_that_end_with_one_slot(self):
        table = with_words(joined(empty(2, 2), 0, 0, 1, 2), 0, 0, ("abcdefgh",))
        self.tells(table, [1, 6], [1, 1])
        table = with_words(table, 1, 0, ("xyz",))
        self.tells(table, [3, 4], [1, 1])
        self.tells(with_words(table, 1, 1, ("stuvw",)), [3, 5], [1, 1])

    def test_rows_have_the_widths_that_the_columns_got(self):
        table = with_words(empty(2, 1), 0, 0, ("abcdef",))
        self.tells(with_words(table, 1, 0, ("abc", "de")), [6], [1, 1])
        self.tells(with_words(table, 1, 0, ("abc", "def")), [6], [1, 2])

    def test_the_greatest(self):
        table = (16, 16, [(row, column, 1, 1, TWELVE) for row in range(16) for column in range(16)])
        self.tells(table, [12] * 16, [12] * 16)
        self.tells(empty(16, 16), [1] * 16, [1] * 16)

    def least(self, told, many, spans):
        """No span lacks room, and each slot is 1 or could not be less for a span that ends with it."""
        self.assertEqual(len(told), many)
        spare = [sum(told[first:behind]) + behind - first - 1 - need for first, behind, need in spans]
        self.assertGreaterEqual(min(spare), 0)
        for slot, size in enumerate(told):
            ending = [room for room, span in zip(spare, spans) if span[1] == slot + 1]
            self.assertGreaterEqual(size, 1)
            self.assertTrue(size == 1 or 0 in ending)

    def test_many_tables(self):
        for table in small_tables() + large_tables() + wordy_tables():
            widths, heights = told_afresh(self, layout, table)
            longest = [max(map(len, text.split()), default=0) for text in texts(table)]
            across = [(cell[1], cell[1] + cell[3], need) for cell, need in zip(table[2], longest)]
            self.least(widths, table[1], across)
            rooms = [sum(widths[first:behind]) + behind - first - 1 for first, behind, _ in across]
            filling = [len(textwrap.wrap(text, room)) for text, room in zip(texts(table), rooms)]
            self.least(heights, table[0], [(cell[0], cell[0] + cell[2], need) for cell, need in zip(table[2], filling)])


if __name__ == "__main__":
    unittest.main()
