"""Tables finer than others of as many rows and columns, and what two such tables have above and below them.

A block is a tuple (top, left, height, width), the beginning of a cell.
"""

from gridframe.blocks import lies_in, meets
from gridframe.tables import in_order


def is_finer(one, other):
    return all([lies_in_some(cell, other[2]) for cell in one[2]])


def joint(one, other):
    blocks = [block_of(cell) for cell in one[2]]
    for cell in other[2]:
        blocks = merged(blocks, block_of(cell))
    return bare(one, blocks)


def common(one, other):
    blocks = []
    for cell in one[2]:
        blocks.extend([overlap(cell, some) for some in other[2] if meets(cell, some)])
    return bare(one, blocks)


def lies_in_some(cell, blocks):
    return any([lies_in(cell, block) for block in blocks])


def merged(blocks, block):
    met = [some for some in blocks if meets(some, block)]
    whole = hull(met + [block])
    # A block that grew may meet others that it did not meet before.
    if whole != block:
        return merged(blocks, whole)
    return [some for some in blocks if not meets(some, block)] + [block]


def hull(blocks):
    top = min([block[0] for block in blocks])
    left = min([block[1] for block in blocks])
    return between(top, left, max([bottom(block) for block in blocks]), max([right(block) for block in blocks]))


def overlap(one, other):
    top = max(one[0], other[0])
    left = max(one[1], other[1])
    return between(top, left, min(bottom(one), bottom(other)), min(right(one), right(other)))


def between(top, left, low, far):
    return (top, left, low - top, far - left)


def bottom(block):
    return block[0] + block[2]


def right(block):
    return block[1] + block[3]


def block_of(cell):
    return cell[:4]


def bare(table, blocks):
    return (table[0], table[1], in_order([block + ((),) for block in blocks]))
