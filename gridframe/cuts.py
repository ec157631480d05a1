"""Trees of tables that are cut along lines that no cell spans, and tables set below one another and mirrored.

A tree is ("cell", rows, columns, words), ("down", parts), ("across", parts) or ("knot", rows, columns, cells).
"""

from gridframe.bands import band_tables
from gridframe.blocks import abreast, stacked
from gridframe.deeds import turned
from gridframe.errors import TooBig
from gridframe.tables import LONGEST_SIDE, in_order


def tree(table):
    if len(table[2]) == 1:
        return ("cell", table[0], table[1], table[2][0][4])
    down = band_tables(table)
    if len(down) > 1:
        return ("down", [tree(part) for part in down])
    across = [turned(part) for part in band_tables(turned(table))]
    if len(across) > 1:
        return ("across", [tree(part) for part in across])
    return ("knot", table[0], table[1], list(table[2]))


def grown(knot):
    if knot[0] == "cell":
        return (knot[1], knot[2], [(0, 0, knot[1], knot[2], knot[3])])
    if knot[0] == "knot":
        return (knot[1], knot[2], list(knot[3]))
    parts = [grown(part) for part in knot[1]]
    return stacked(parts) if knot[0] == "down" else abreast(parts)


def depth(knot):
    if is_leaf(knot):
        return 0
    return 1 + max([depth(part) for part in knot[1]])


def leaves(knot):
    if is_leaf(knot):
        return [leaf_copy(knot)]
    found = []
    for part in knot[1]:
        found.extend(leaves(part))
    return found


def below(one, other):
    if one[0] + other[0] > LONGEST_SIDE:
        raise TooBig("there are too many rows together")
    return stacked([one, other])


def mirrored(table):
    columns = table[1]
    cells = [(top, columns - left - width, height, width, words) for top, left, height, width, words in table[2]]
    return (table[0], columns, in_order(cells))


def is_leaf(knot):
    return knot[0] == "cell" or knot[0] == "knot"


def leaf_copy(leaf):
    if leaf[0] == "cell":
        return leaf
    # A knot's list must not be shared with the tree that was handed in.
    return ("knot", leaf[1], leaf[2], list(leaf[3]))
