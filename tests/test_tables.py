import copy
import unittest

from gridframe.errors import BadTable
from gridframe.tables import cell_at, checked, empty, with_words
from tests.helper import grid_of, small_tables

# Three rows and four columns: (0,0) spans both ways, (0,2) columns, (1,3) rows.
MIXED = (3, 4, [
    (0, 0, 2, 2, ("big",)),
    (0, 2, 1, 2, ("wide", "one")),
    (1, 2, 1, 1, ()),
    (1, 3, 2, 1, ("tall",)),
    (2, 0, 1, 1, ("a",)),
    (2, 1, 1, 2, ("b",)),
])


def one(*parts):
    """A table of one place with that one cell."""
    return (1, 1, [tuple(parts)])


class Checks(unittest.TestCase):
    def tells(self, table):
        before = copy.deepcopy(table)
        told = checked(table)
        self.assertEqual(told, before)
        self.assertEqual(table, before)
        self.assertIsNot(told[2], table[2])

    def refuses(self, thing, at):
        with self.assertRaises(BadTable) as caught:
            checked(thing)
        self.assertEqual(caught.exception.at, at)
        if at is not None:
            self.assertNotIsInstance(caught.exception.at, bool)


class Tables(Checks):
    def test_one_place(self):
        self.tells(one(0, 0, 1, 1, ()))
        self.tells(one(0, 0, 1, 1, ("a",)))

    def test_cells_that_span(self):
        self.tells(MIXED)
        self.tells((1, 2, [(0, 0, 1, 2, ())]))
        self.tells((2, 1, [(0, 0, 2, 1, ())]))
        self.tells((2, 2, [(0, 0, 2, 2, ())]))
        pinwheel = [(0, 0, 1, 2), (0, 2, 2, 1), (1, 0, 2, 1), (1, 1, 1, 1), (2, 1, 1, 2)]
        self.tells((3, 3, [part + ((),) for part in pinwheel]))

    def test_every_small_table(self):
        for table in small_tables():
            self.tells(table)

    def test_sixteen_rows_and_columns(self):
        self.tells((16, 1, [(row, 0, 1, 1, ()) for row in range(16)]))
        self.tells((1, 16, [(0, column, 1, 1, ()) for column in range(16)]))
        self.tells((16, 16, [(row, column, 1, 1, ()) for row in range(16) for column in range(16)]))
        self.tells((16, 16, [(0, 0, 16, 16, ("whole",))]))

    def test_words(self):
        for word in ("a", "z", "0", "9", "q7", "abcdefghijkl", "mnopqrstuvwx", "yz0123456789"):
            self.tells(one(0, 0, 1, 1, (word,)))
        self.tells(one(0, 0, 1, 1, ("abcdefghijkl",) * 12))
        self.tells(one(0, 0, 1, 1, ("same", "same")))

    def test_the_list_told_is_a_new_one_each_time(self):
        given = copy.deepcopy(MIXED)
        first = checked(given)
        first[2].clear()
        self.assertEqual(given, MIXED)
        self.assertEqual(checked(given), MIXED)

    def test_told_is_a_plain_tuple_with_a_list(self):
        told = checked(MIXED)
        self.assertIs(type(told), tuple)
        self.assertIs(type(told[2]), list)

    def test_same_just_if_equal_as_tuples(self):
        self.assertEqual(checked(one(0, 0, 1, 1, ("a",))), (1, 1, [(0, 0, 1, 1, ("a",))]))
        self.assertEqual(checked(MIXED), checked(copy.deepcopy(MIXED)))
        self.assertNotEqual(checked(one(0, 0, 1, 1, ("a",))), checked(one(0, 0, 1, 1, ("b",))))
        self.assertNotEqual(checked(one(0, 0, 1, 1, ("a", "b"))), checked(one(0, 0, 1, 1, ("b", "a"))))
        self.assertNotEqual(checked((1, 2, [(0, 0, 1, 2, ())])), empty(1, 2))


class NoTables(Checks):
    def test_things_of_any_kind(self):
        things = [
            None, True, False, 0, 1, -3, 2.5, 1j, "", "table", b"111", [], {}, set(), (), object(), len, int, BadTable,
            [1, 1, [(0, 0, 1, 1, ())]], {"rows": 1}, range(3), (1,), (1, 1), (1, 1, [], []), ((), (), ()), "abc",
            iter(()), float("nan"), NotImplemented, Ellipsis,
        ]
        for thing in things:
            with self.subTest(thing=repr(thing)):
                self.refuses(thing, None)

    def test_the_numbers_of_rows_and_columns(self):
        cells = [(0, 0, 1, 1, ())]
        for wrong in (0, -1, 17, 10 ** 30, True, False, None, 1.0, "1", [1], (1,)):
            with self.subTest(wrong=wrong):
                self.refuses((wrong, 1, list(cells)), None)
                self.refuses((1, wrong, list(cells)), None)

    def test_zero_and_seventeen_with_cells_that_fit(self):
        self.refuses((0, 1, []), None)
        self.refuses((1, 0, []), None)
        self.refuses((17, 1, [(row, 0, 1, 1, ()) for row in range(17)]), None)
        self.refuses((1, 17, [(0, column, 1, 1, ()) for column in range(17)]), None)
        self.refuses((17, 1, [(0, 0, 17, 1, ())]), None)

    def test_the_cells_are_a_list(self):
        for wrong in (((0, 0, 1, 1, ()),), {}, None, "", 0, {0: (0, 0, 1, 1, ())}, iter([])):
            with self.subTest(wrong=repr(wrong)):
                self.refuses((1, 1, wrong), None)

    def test_a_cell_of_another_form(self):
        wrong_cells = [
            None, 0, True, "cell!", [], (), {}, set(), object(), 1.5, b"12345", [0, 0, 1, 1, ()],
            (0, 0, 1, 1), (0, 0, 1, 1, (), ()),
            (None, 0, 1, 1, ()), (0, "0", 1, 1, ()), (0, 0, 1.0, 1, ()), (0, 0, 1, [1], ()),
            (False, 0, 1, 1, ()), (0, False, 1, 1, ()), (0, 0, True, 1, ()), (0, 0, 1, True, ()),
            (-1, 0, 2, 1, ()), (0, -1, 1, 2, ()), (-1, 0, 1, 1, ()), (0, -1, 1, 1, ()),
            (0, 0, 0, 1, ()), (0, 0, 1, 0, ()), (0, 0, -1, 1, ()), (0, 0, 1, -1, ()),
            (0, 0, 1, 1, None), (0, 0, 1, 1, []), (0, 0, 1, 1, ["a"]), (0, 0, 1, 1, "a"), (0, 0, 1, 1, ""),
            (0, 0, 1, 1, {}), (0, 0, 1, 1, 1),
        ]
        for cell in wrong_cells:
            with self.subTest(cell=repr(cell)):
                self.refuses((1, 1, [cell]), 0)
                self.refuses((1, 2, [(0, 0, 1, 1, ()), cell]), 1)

    def test_words_that_are_none(self):
        wrong_words = [
            "", "abcdefghijklm", "A", "aB", " ", "a b", "a ", "a\n", "\n", "-", "_", "+", "|", "\u00e4", "\u00df",
            "\u0663", "\u00b2", "\uff11", "\u0430", "\ud800", "`", "{", "/", ":", "\0", "a" * 10000,
            None, 1, True, b"a", ["a"], ("a",), 1.0,
        ]
        for word in wrong_words:
            with self.subTest(word=repr(word)[:40]):
                self.refuses(one(0, 0, 1, 1, (word,)), 0)
                self.refuses(one(0, 0, 1, 1, ("a", word)), 0)
                self.refuses((1, 2, [(0, 0, 1, 1, ("a",)), (0, 1, 1, 1, ("b", word, "c"))]), 1)

    def test_thirteen_words(self):
        self.refuses(one(0, 0, 1, 1, ("a",) * 13), 0)
        self.refuses((1, 2, [(0, 0, 1, 1, ("a",) * 12), (0, 1, 1, 1, ("a",) * 13)]), 1)

    def test_a_cell_that_sticks_out(self):
        self.refuses(one(0, 0, 2, 1, ()), 0)
        self.refuses(one(0, 0, 1, 2, ()), 0)
        self.refuses(one(0, 0, 10 ** 40, 10 ** 40, ()), 0)
        self.refuses(one(1, 0, 1, 1, ()), 0)
        self.refuses(one(0, 1, 1, 1, ()), 0)
        self.refuses((2, 2, [(0, 0, 2, 1, ()), (0, 1, 3, 1, ())]), 1)
        self.refuses((2, 2, [(0, 0, 1, 2, ()), (1, 0, 1, 3, ())]), 1)
        self.refuses((1, 1, [(0, 0, 1, 1, ()), (1, 0, 1, 1, ())]), 1)

    def test_a_place_covered_twice(self):
        self.refuses((1, 1, [(0, 0, 1, 1, ()), (0, 0, 1, 1, ())]), 1)
        self.refuses((1, 2, [(0, 0, 1, 2, ()), (0, 1, 1, 1, ())]), 1)
        self.refuses((2, 1, [(0, 0, 2, 1, ()), (1, 0, 1, 1, ())]), 1)
        self.refuses((2, 3, [(0, 0, 1, 1, ()), (0, 1, 2, 1, ()), (0, 2, 1, 1, ()), (1, 0, 1, 2, ())]), 3)

    def test_a_cell_not_behind_the_one_ahead(self):
        self.refuses((1, 2, [(0, 1, 1, 1, ()), (0, 0, 1, 1, ())]), 1)
        self.refuses((2, 1, [(1, 0, 1, 1, ()), (0, 0, 1, 1, ())]), 1)
        by_columns = [(0, 0, 1, 1, ()), (1, 0, 1, 1, ()), (0, 1, 1, 1, ()), (1, 1, 1, 1, ())]
        self.refuses((2, 2, by_columns), 2)

    def test_a_place_that_no_cell_covers(self):
        self.refuses((1, 1, []), None)
        self.refuses((1, 2, [(0, 0, 1, 1, ())]), None)
        self.refuses((1, 2, [(0, 1, 1, 1, ())]), None)
        self.refuses((2, 2, [(0, 0, 1, 2, ()), (1, 1, 1, 1, ())]), None)
        for cell in range(len(MIXED[2])):
            self.refuses((3, 4, MIXED[2][:cell] + MIXED[2][cell + 1:]), None)

    def test_the_first_of_several_faults(self):
        fine = (0, 0, 1, 1, ())
        no_cell, out, twice = (0, 2), (0, 1, 1, 9, ()), (0, 0, 1, 2, ())
        self.refuses((1, 3, [fine, no_cell, out]), 1)
        self.refuses((1, 3, [fine, out, no_cell]), 1)
        self.refuses((1, 3, [fine, twice, no_cell]), 1)
        self.refuses((1, 3, [fine, (0, 2, 1, 1, ()), (0, 1, 1, 1, ()), no_cell]), 2)
        self.refuses((1, 3, [no_cell, fine, fine]), 0)

    def test_a_wrong_frame_goes_ahead_of_a_wrong_cell(self):
        self.refuses((17, 1, [None]), None)
        self.refuses((1, 0, [(0, 0, 1, 1, ("",))]), None)

    def test_a_place_not_covered_is_asked_last(self):
        self.refuses((2, 2, [(0, 1, 1, 1, ()), (1, 0, 1, 1, ("NO",))]), 1)
        self.refuses((4, 4, [(3, 3, 1, 1, ()), (0, 0, 1, 1, ())]), 1)
        self.refuses((4, 4, [(0, 0, 1, 1, ()), (0, 0, 1, 1, ())]), 1)

    def test_true_and_false_are_no_numbers(self):
        self.refuses((True, 1, [(0, 0, 1, 1, ())]), None)
        self.refuses((1, True, [(0, 0, 1, 1, ())]), None)
        for cell in ((False, 0, 1, 1, ()), (0, False, 1, 1, ()), (0, 0, True, 1, ()), (0, 0, 1, True, ())):
            self.refuses((1, 1, [cell]), 0)

    def test_nothing_handed_in_is_changed(self):
        wrong = (2, 2, [(0, 0, 1, 1, ()), (0, 0, 1, 1, ("x",))])
        before = copy.deepcopy(wrong)
        self.refuses(wrong, 1)
        self.assertEqual(wrong, before)


class Empty(unittest.TestCase):
    def test_cells_of_one_place_in_order(self):
        self.assertEqual(empty(1, 1), (1, 1, [(0, 0, 1, 1, ())]))
        self.assertEqual(empty(2, 3), (2, 3, [
            (0, 0, 1, 1, ()), (0, 1, 1, 1, ()), (0, 2, 1, 1, ()),
            (1, 0, 1, 1, ()), (1, 1, 1, 1, ()), (1, 2, 1, 1, ()),
        ]))

    def test_up_to_the_edges(self):
        for rows, columns in ((1, 16), (16, 1), (16, 16), (3, 7)):
            self.assertEqual(checked(empty(rows, columns)), empty(rows, columns))
            self.assertEqual(len(empty(rows, columns)[2]), rows * columns)

    def test_nothing_is_refused_somewhat_beyond(self):
        self.assertEqual(len(empty(17, 17)[2]), 17 * 17)
        self.assertEqual(empty(0, 2), (0, 2, []))

    def test_a_new_list_each_time(self):
        empty(2, 2)[2].clear()
        self.assertEqual(len(empty(2, 2)[2]), 4)


class CellAt(unittest.TestCase):
    def test_each_place_of_a_mixed_table(self):
        expected = [[0, 0, 1, 1], [0, 0, 2, 3], [4, 5, 5, 3]]
        told = [[cell_at(MIXED, row, column) for column in range(4)] for row in range(3)]
        self.assertEqual(told, expected)

    def test_every_small_table(self):
        for table in small_tables():
            grid, _ = grid_of(table)
            told = [[cell_at(table, row, column) for column in range(table[1])] for row in range(table[0])]
            self.assertEqual(told, grid)

    def test_corners_of_the_greatest(self):
        table = empty(16, 16)
        corners = [cell_at(table, row, column) for row in (0, 15) for column in (0, 15)]
        self.assertEqual(corners, [0, 15, 240, 255])
        whole = (16, 16, [(0, 0, 16, 16, ())])
        self.assertEqual([cell_at(whole, row, column) for row in (0, 15) for column in (0, 15)], [0, 0, 0, 0])


class WithWords(unittest.TestCase):
    def test_each_place_of_every_small_table(self):
        for table in small_tables():
            before = copy.deepcopy(table)
            grid, _ = grid_of(table)
            for row in range(table[0]):
                for column in range(table[1]):
                    told = with_words(table, row, column, ("new", "words"))
                    expected = copy.deepcopy(before)
                    at = grid[row][column]
                    expected[2][at] = expected[2][at][:4] + (("new", "words"),)
                    self.assertEqual(told, expected)
                    self.assertEqual(checked(told), expected)
                    self.assertEqual(table, before)

    def test_within_cells_that_span(self):
        for row, column in ((0, 0), (0, 1), (1, 0), (1, 1)):
            self.assertEqual(with_words(MIXED, row, column, ("x",))[2][0], (0, 0, 2, 2, ("x",)))
        for row, column in ((1, 3), (2, 3)):
            self.assertEqual(with_words(MIXED, row, column, ())[2][3], (1, 3, 2, 1, ()))

    def test_no_words_and_many(self):
        table = empty(1, 2)
        self.assertEqual(with_words(table, 0, 1, ("a",) * 12)[2][1][4], ("a",) * 12)
        self.assertEqual(with_words(with_words(table, 0, 1, ("a",)), 0, 1, ()), table)

    def test_nothing_is_refused_somewhat_beyond(self):
        self.assertEqual(with_words(empty(1, 1), 0, 0, ("a",) * 13)[2], [(0, 0, 1, 1, ("a",) * 13)])

    def test_a_new_list_each_time(self):
        given = copy.deepcopy(MIXED)
        with_words(given, 0, 0, ("x",))[2].clear()
        self.assertEqual(given, MIXED)
        self.assertEqual(len(with_words(given, 0, 0, ("x",))[2]), 6)


if __name__ == "__main__":
    unittest.main()
