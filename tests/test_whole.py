"""Deeds one behind the other: what comes of them is a table, and comes back from all that is made of it."""

import copy
import unittest

from gridframe.bands import bands, ordered, tight
from gridframe.blocks import beside, cut_out, joined, parted
from gridframe.cuts import below, depth, grown, leaves, mirrored, tree
from gridframe.deeds import column_in, column_out, row_in, row_out, turned
from gridframe.drawing import drawn
from gridframe.errors import Crossing, GridError, TooBig, TooSmall, TooTall
from gridframe.finer import common, is_finer, joint
from gridframe.plain import plain, read_plain
from gridframe.reading import read
from gridframe.sizes import chain
from gridframe.strips import put_together, strips
from gridframe.tables import checked, empty, with_words
from gridframe.words import column_spans, layout, row_spans
from tests.helper import PINWHEEL, chooser, chosen_words, large_tables, one_cell, small_tables, wordy_tables


def block_chosen(table, chosen):
    top, left = chosen(table[0]), chosen(table[1])
    return table, top, left, 1 + chosen(min(4, table[0] - top)), 1 + chosen(min(4, table[1] - left))


def deed_chosen(table, chosen):
    """A deed and what it is handed."""
    rows, columns, _ = table
    place = (chosen(rows), chosen(columns))
    choices = [
        (row_in, table, chosen(rows + 1)), (column_in, table, chosen(columns + 1)), (row_out, table, place[0]),
        (column_out, table, place[1]), (joined, *block_chosen(table, chosen)), (joined, *block_chosen(table, chosen)),
        (joined, *block_chosen(table, chosen)), (joined, *block_chosen(table, chosen)), (parted, table, *place),
        (ordered, table, place[1]), (turned, table), (mirrored, table),
        (with_words, table, *place, chosen_words(chosen(7), chosen)),
        (with_words, table, *place, chosen_words(chosen(7), chosen)), (tight, table),
        (cut_out, *block_chosen(table, chosen)), (beside, table, table), (below, table, mirrored(table)),
    ]
    # The deeds that make a table less, or twice as great, come more seldom than the others.
    seldom = chosen(8) == 0
    return choices[chosen(len(choices)) if seldom else chosen(len(choices) - 4)]


class Whole(unittest.TestCase):
    def comes_back(self, table):
        before = copy.deepcopy(table)
        self.assertEqual(checked(table), table)
        self.assertEqual(read(drawn(table)), table)
        self.assertEqual(read_plain(plain(table)), table)
        self.assertEqual(grown(tree(table)), table)
        self.comes_back_from_strips(table)
        self.is_laid_out(table)
        self.is_related(table)
        self.assertEqual(table, before)

    def comes_back_from_strips(self, table):
        heights = [behind - first for first, behind in bands(table)]
        for head in sorted({0, len(heights) // 2, len(heights) - 1}):
            least = sum(heights[:head]) + max(heights[head:])
            for room in (least, least + 1, table[0], table[0] + 3):
                if room >= least:
                    some = strips(table, head, room)
                    self.assertEqual(put_together(some, head), table)
                    for strip in some:
                        self.assertEqual(checked(strip), strip)
                        self.assertEqual(read(drawn(strip)), strip)
            with self.assertRaises(TooTall):
                strips(table, head, least - 1)

    def is_laid_out(self, table):
        widths, heights = layout(table)
        for spans, told in ((column_spans(table), widths), (row_spans(table, widths), heights)):
            held = [spans[at] for at in chain(spans, len(told))]
            needs = [need - (behind - first - 1) for first, behind, need in held]
            free = len(told) - sum(behind - first for first, behind, _ in held)
            self.assertEqual(sum(needs) + free, sum(told))

    def is_related(self, table):
        self.assertEqual(turned(turned(table)), table)
        self.assertEqual(mirrored(mirrored(table)), table)
        self.assertEqual(tight(tight(table)), tight(table))
        self.assertTrue(is_finer(empty(table[0], table[1]), table))
        bare = (table[0], table[1], [cell[:4] + ((),) for cell in table[2]])
        self.assertEqual(joint(table, table), bare)
        self.assertEqual(common(table, mirrored(mirrored(table))), bare)
        if len(bands(table)) > 1 or len(bands(turned(table))) > 1:
            self.assertGreaterEqual(depth(tree(table)), 1)
        held = [cell for leaf in leaves(tree(table)) for cell in (leaf[3] if leaf[0] == "knot" else [leaf])]
        self.assertEqual(len(held), len(table[2]))


class Deeds(Whole):
    def goes_on(self, table, steps, chosen):
        done = {}
        for _ in range(steps):
            call, *given = deed_chosen(table, chosen)
            before = copy.deepcopy(given)
            try:
                told = call(*given)
            except (TooBig, TooSmall, Crossing) as error:
                done[type(error).__name__] = done.get(type(error).__name__, 0) + 1
                told = table
            else:
                done[call.__name__] = done.get(call.__name__, 0) + 1
            self.assertEqual(given, before)
            self.comes_back(told)
            table = told
        return done

    def test_chosen_deeds(self):
        done = {}
        for seed, table in enumerate([empty(1, 1), empty(4, 4), PINWHEEL, empty(8, 3), wordy_tables()[8]]):
            for name, count in self.goes_on(table, 60, chooser(seed + 100)).items():
                done[name] = done.get(name, 0) + count
        for name in ("row_in", "column_in", "row_out", "column_out", "joined", "parted", "ordered", "turned",
                     "mirrored", "with_words", "Crossing"):
            self.assertGreater(done[name], 2)

    def test_told_deeds(self):
        table = empty(2, 3)
        table = with_words(table, 0, 0, ("name",))
        table = with_words(table, 0, 1, ("what", "it", "is"))
        table = row_in(table, 2)
        self.comes_back(table)
        table = joined(table, 1, 1, 2, 2)
        table = with_words(table, 2, 2, ("several", "words", "in", "one", "cell"))
        self.comes_back(table)
        table = column_in(table, 2)
        self.assertEqual(table[2][5], (1, 1, 2, 3, ("several", "words", "in", "one", "cell")))
        self.comes_back(table)
        table = turned(mirrored(table))
        self.comes_back(table)
        self.assertEqual(drawn(table), (
            "+----+-+-----+\n"
            "|    |several|\n"
            "+----+words  +\n"
            "|    |in one |\n"
            "+----+cell   +\n"
            "|what|       |\n"
            "|it  |       |\n"
            "|is  |       |\n"
            "+----+-+-----+\n"
            "|name| |     |\n"
            "+----+-+-----+\n"
        ))
        table = ordered(with_words(table, 0, 0, ("zz",)), 0)
        self.comes_back(table)
        self.assertEqual([cell[4] for cell in table[2] if cell[1] == 0], [("name",), ("zz",), (), ("what", "it", "is")])
        table = tight(row_out(parted(table, 2, 1), 0))
        self.comes_back(table)
        self.assertEqual(plain(table), (
            "3 3\n0 0 1 1 zz\n0 1 1 1 several words in one cell\n0 2 1 1\n1 0 1 1\n1 1 1 1\n1 2 1 1\n"
            "2 0 1 1 what it is\n2 1 1 1\n2 2 1 1\n"
        ))

    def test_every_small_table(self):
        for table in small_tables():
            self.comes_back(table)

    def test_large_tables(self):
        for table in large_tables()[::2] + wordy_tables():
            self.comes_back(table)

    def test_the_greatest_and_the_least(self):
        for table in (one_cell(1, 1), one_cell(16, 16), empty(16, 16), empty(1, 16), empty(16, 1)):
            self.comes_back(table)

    def test_what_is_told_of_two_tables_comes_back(self):
        for one in small_tables()[::19]:
            for other in small_tables()[::7]:
                if one[0] == other[0]:
                    self.assertEqual(read(drawn(beside(one, other))), beside(one, other))
                if one[1] == other[1]:
                    self.assertEqual(read_plain(plain(below(one, other))), below(one, other))
                if one[:2] == other[:2]:
                    for told in (joint(one, other), common(one, other)):
                        self.assertEqual(read(drawn(told)), told)
                        self.assertEqual(grown(tree(told)), told)

    def test_refused_deeds_leave_the_table(self):
        table = with_words(joined(empty(16, 16), 0, 0, 2, 2), 0, 0, ("a",))
        for call, *given in ((row_in, table, 0), (column_in, table, 16), (beside, table, table), (below, table, table),
                             (cut_out, table, 1, 1, 2, 2), (joined, table, 0, 1, 1, 1)):
            with self.assertRaises(GridError):
                call(*given)
        self.comes_back(table)


if __name__ == "__main__":
    unittest.main()
