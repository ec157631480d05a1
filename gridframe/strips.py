"""Tables cut into strips that each bear the head, and put together again."""

from gridframe.bands import band_tables
from gridframe.blocks import stacked
from gridframe.errors import TooTall


def strips(table, head, room):
    parts = band_tables(table)
    free = room - rows_of(parts[:head])
    for at, part in enumerate(parts):
        if at >= head and part[0] > free:
            raise TooTall(at)
    return [stacked(parts[:head] + run) for run in runs(parts[head:], free)]


def put_together(some, head):
    parts = band_tables(some[0])[:head]
    for strip in some:
        parts.extend(band_tables(strip)[head:])
    return stacked(parts)


def runs(parts, free):
    # The first run is there from the start, so that a head with nothing behind it is a strip too.
    found = [[]]
    for part in parts:
        if rows_of(found[-1]) + part[0] > free:
            found.append([])
        found[-1].append(part)
    return found


def rows_of(parts):
    return sum([part[0] for part in parts])
