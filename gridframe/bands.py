"""Bands of rows between lines that no cell spans, and tables made tight."""

from gridframe.blocks import cut_out, stacked
from gridframe.deeds import row_out, turned
from gridframe.tables import cell_at


def bands(table):
    ends = [0] + open_lines(table) + [table[0]]
    return list(zip(ends, ends[1:]))


def ordered(table, column):
    in_turn = sorted(bands(table), key=lambda band: words_at(table, band[0], column))
    return stacked([band_table(table, band) for band in in_turn])


def tight(table):
    return turned(tight_down(turned(tight_down(table))))


def tight_down(table):
    told = table
    # From the last line back, so that the lines still to come keep their numbers.
    for line in reversed(idle_lines(table)):
        told = row_out(told, line)
    return told


def open_lines(table):
    return [line for line in range(1, table[0]) if is_open(table, line)]


def is_open(table, line):
    return not any([spans(cell, line) for cell in table[2]])


def idle_lines(table):
    return [line for line in range(1, table[0]) if is_idle(table, line)]


def is_idle(table, line):
    return all([spans(cell, line) for cell in table[2] if reaches(cell, line)])


def spans(cell, line):
    return cell[0] < line < cell[0] + cell[2]


def reaches(cell, line):
    return cell[0] <= line <= cell[0] + cell[2]


def band_tables(table):
    return [band_table(table, band) for band in bands(table)]


def band_table(table, band):
    return cut_out(table, band[0], 0, band[1] - band[0], table[1])


def words_at(table, row, column):
    return table[2][cell_at(table, row, column)][4]
