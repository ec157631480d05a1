"""The least sizes of slots at which all spans have room, and the chain that shows that they are the least.

A span is a tuple (first, behind, need).
"""


def sizes(spans, many):
    told = []
    for slot in range(many):
        # The slot itself is not told yet, so what its spans lack is what it must have.
        told.append(max([1] + [lack(spans[at], told) for at in ending(spans, slot)]))
    return told


def chain(spans, many):
    told = sizes(spans, many)
    found = []
    slot = many - 1
    while slot >= 0:
        if told[slot] == 1:
            slot = slot - 1
        else:
            full = [at for at in ending(spans, slot) if lack(spans[at], told) == 0]
            # There is one: a slot of more than 1 has its size from a span that ends with it.
            found.append(full[0])
            slot = spans[full[0]][0] - 1
    return list(reversed(found))


def ending(spans, slot):
    return [at for at, span in enumerate(spans) if span[1] == slot + 1]


def lack(span, told):
    lines = span[1] - span[0] - 1
    return span[2] - sum(told[span[0]:span[1]]) - lines
