"""The whole interface: its names and arguments, nothing changed or kept, and a class of its own for each refusal."""

import copy
import importlib
import inspect
import unittest

from gridframe.bands import bands, ordered, tight
from gridframe.blocks import beside, cut_out, joined, parted
from gridframe.cuts import below, depth, grown, leaves, mirrored, tree
from gridframe.deeds import column_in, column_out, row_in, row_out, turned
from gridframe.drawing import drawn
from gridframe.errors import BadDrawing, BadPlain, BadTable, Crossing, GridError, TooBig, TooSmall, TooTall
from gridframe.finer import common, is_finer, joint
from gridframe.plain import plain, read_plain
from gridframe.reading import read
from gridframe.sizes import chain, sizes
from gridframe.strips import put_together, strips
from gridframe.tables import cell_at, checked, empty, with_words
from gridframe.words import column_spans, filled, layout, row_spans
from tests.helper import PINWHEEL, large_tables, lists_in, one_cell, refused, small_tables, told_afresh, wordy_tables

INTERFACE = {
    "tables": {
        checked: ["table"], empty: ["rows", "columns"], cell_at: ["table", "row", "column"],
        with_words: ["table", "row", "column", "words"],
    },
    "deeds": {
        row_in: ["table", "at"], row_out: ["table", "at"], turned: ["table"], column_in: ["table", "at"],
        column_out: ["table", "at"],
    },
    "blocks": {
        joined: ["table", "top", "left", "height", "width"], parted: ["table", "row", "column"],
        cut_out: ["table", "top", "left", "height", "width"], beside: ["one", "other"],
    },
    "bands": {bands: ["table"], ordered: ["table", "column"], tight: ["table"]},
    "cuts": {
        tree: ["table"], grown: ["knot"], depth: ["knot"], leaves: ["knot"], below: ["one", "other"],
        mirrored: ["table"],
    },
    "finer": {is_finer: ["one", "other"], joint: ["one", "other"], common: ["one", "other"]},
    "strips": {strips: ["table", "head", "room"], put_together: ["some", "head"]},
    "sizes": {sizes: ["spans", "many"], chain: ["spans", "many"]},
    "words": {
        filled: ["words", "width"], column_spans: ["table"], row_spans: ["table", "widths"], layout: ["table"],
    },
    "drawing": {drawn: ["table"]},
    "reading": {read: ["text"]},
    "plain": {plain: ["table"], read_plain: ["text"]},
}

# A head, a knot, and a cell below that spans both ways.
KNOTTED = (6, 3, [(0, column, 1, 1, (f"h{column}",)) for column in range(3)]
           + [(cell[0] + 1,) + cell[1:] for cell in PINWHEEL[2]]
           + [(4, 0, 2, 2, ("x", "y")), (4, 2, 1, 1, ()), (5, 2, 1, 1, ("z",))])

# Each refusal with a call that makes it.
REFUSALS = (
    (BadTable, checked, ((1, 1, [(0, 0, 1, 1, ()), (0, 0, 1, 1, ())]),)),
    (BadTable, checked, ((1, 2, [(0, 0, 1, 1, ())]),)),
    (BadTable, checked, ([1, 1, [(0, 0, 1, 1, ())]],)),
    (TooBig, row_in, (empty(16, 2), 3)),
    (TooBig, column_in, (empty(2, 16), 16)),
    (TooBig, joined, ((1, 2, [(0, 0, 1, 1, ("a",) * 7), (0, 1, 1, 1, ("b",) * 6)]), 0, 0, 1, 2)),
    (TooBig, beside, (empty(2, 9), empty(2, 8))),
    (TooBig, below, (empty(9, 2), empty(8, 2))),
    (TooSmall, row_out, (empty(1, 3), 0)),
    (TooSmall, column_out, (empty(3, 1), 0)),
    (Crossing, joined, (PINWHEEL, 0, 0, 2, 2)),
    (Crossing, cut_out, (PINWHEEL, 1, 1, 2, 2)),
    (TooTall, strips, (KNOTTED, 1, 3)),
    (BadDrawing, read, ("+-+\n| |\n+-+",)),
    (BadDrawing, read, (["+-+\n"],)),
    (BadPlain, read_plain, ("1 1\n0 0 1 1",)),
    (BadPlain, read_plain, ([1, 1, [0, 0, 1, 1]],)),
)
CLASSES = (TooBig, TooSmall, BadDrawing, BadPlain, BadTable, Crossing, TooTall)


def calls_on(table):
    """A call of each name of the interface that takes such a table, or what is told of one."""
    rows, columns, _ = table
    count = len(bands(table))
    cut = strips(table, count - 1, rows)
    widths, heights = layout(table)
    spans = row_spans(table, widths)
    calls = [
        (checked, table), (empty, rows, columns), (cell_at, table, rows - 1, columns - 1),
        (with_words, table, rows - 1, 0, ("new",)), (turned, table), (joined, table, 0, 0, rows, columns),
        (parted, table, rows - 1, columns - 1), (cut_out, table, 0, 0, rows, columns), (bands, table),
        (ordered, table, columns - 1), (tight, table), (tree, table), (grown, tree(table)), (depth, tree(table)),
        (leaves, tree(table)), (mirrored, table), (is_finer, table, mirrored(table)), (joint, table, mirrored(table)),
        (common, table, mirrored(table)), (strips, table, 0, rows), (strips, table, count - 1, rows),
        (put_together, cut, count - 1), (sizes, spans, rows), (chain, spans, rows),
        (filled, table[2][-1][4], sum(widths)), (column_spans, table), (row_spans, table, widths), (layout, table),
        (drawn, table), (read, drawn(table)), (plain, table), (read_plain, plain(table)),
        (beside, table, table), (below, table, table), (row_in, table, rows), (column_in, table, columns),
        (row_out, table, rows - 1), (column_out, table, columns - 1),
    ]
    return calls


class Names(unittest.TestCase):
    def test_names_and_arguments(self):
        for name, functions in INTERFACE.items():
            module = importlib.import_module(f"gridframe.{name}")
            for function, arguments in functions.items():
                with self.subTest(name=function.__name__):
                    self.assertIs(getattr(module, function.__name__), function)
                    self.assertEqual(function.__module__, f"gridframe.{name}")
                    self.assertEqual(list(inspect.signature(function).parameters), arguments)

    def test_arguments_are_taken_by_their_names(self):
        for call, *given in calls_on(KNOTTED):
            names = list(inspect.signature(call).parameters)
            self.assertEqual(call(**dict(zip(names, copy.deepcopy(given)))), call(*given))

    def test_kinds(self):
        kinds = {
            list: (bands, leaves, strips, sizes, chain, filled, column_spans, row_spans), bool: (is_finer,),
            int: (cell_at, depth), str: (drawn, plain),
        }
        for call, *given in calls_on(KNOTTED):
            with self.subTest(name=call.__name__):
                kind = [kind for kind, names in kinds.items() if call in names] or [tuple]
                self.assertIs(type(call(*given)), kind[0])

    def test_each_name_is_called_below(self):
        called = {call for call, *_ in calls_on(KNOTTED)}
        self.assertEqual(called, {function for functions in INTERFACE.values() for function in functions})


class NothingChangedOrKept(unittest.TestCase):
    def holds(self, table):
        for call, *given in calls_on(table):
            with self.subTest(name=call.__name__):
                try:
                    call(*copy.deepcopy(given))
                except GridError as error:
                    refused(self, type(error), call, *given)
                else:
                    told_afresh(self, call, *given)

    def test_small_tables(self):
        for table in small_tables()[::7] + [KNOTTED, PINWHEEL, one_cell(1, 1), one_cell(2, 2, "a")]:
            self.holds(table)

    def test_large_tables(self):
        for table in large_tables()[::6] + wordy_tables()[1:15:3]:
            self.holds(table)

    def test_each_call_tells_of_a_table_with_a_knot(self):
        for call, *given in calls_on(KNOTTED):
            told_afresh(self, call, *given)

    def test_the_lists_within_are_told_afresh(self):
        told = [tree(KNOTTED), leaves(tree(KNOTTED)), strips(KNOTTED, 1, 4), layout(KNOTTED), grown(tree(KNOTTED))]
        self.assertEqual([len(list(lists_in(part))) for part in told], [5, 2, 3, 2, 1])

    def test_no_list_is_in_two_places(self):
        for call, *given in calls_on(KNOTTED):
            marks = [id(held) for held in lists_in([call(*given)] + list(given))]
            with self.subTest(name=call.__name__):
                within = [id(held) for held in lists_in(call(*given))]
                self.assertEqual(len(set(within)), len(within))
                if call not in (beside, below):
                    self.assertEqual(len(set(marks)), len(marks))

    def test_refused_calls(self):
        for error, call, given in REFUSALS:
            refused(self, error, call, *given)
            refused(self, error, call, *given)


class Refusals(unittest.TestCase):
    def test_each_is_taken_by_its_own_class_and_by_none_of_the_others(self):
        for error, call, given in REFUSALS:
            with self.subTest(name=call.__name__):
                told = refused(self, GridError, call, *given)
                self.assertEqual([one for one in CLASSES if isinstance(told, one)], [error])
                self.assertIsInstance(told, ValueError)

    def test_all_seven_are_made(self):
        self.assertEqual({error for error, _, _ in REFUSALS}, set(CLASSES))


if __name__ == "__main__":
    unittest.main()
