"""Tables for the tests, and a second way to think of them: a grid that names each place's cell."""

import copy

from gridframe.tables import checked

PINWHEEL = (3, 3, [
    (0, 0, 1, 2, ("a",)), (0, 2, 2, 1, ("b",)), (1, 0, 2, 1, ("c",)), (1, 1, 1, 1, ("d",)), (2, 1, 1, 2, ("e",)),
])
PINWHEEL_DRAWN = (
    "+-+-+-+",
    "|a  |b|",
    "+-+-+ +",
    "|c|d| |",
    "+ +-+-+",
    "| |e  |",
    "+-+-+-+",
)


def tilings(rows, columns):
    """Every list of (top, left, height, width) in order that covers each place just once."""
    found = []

    def fill(taken, parts):
        free = [(r, c) for r in range(rows) for c in range(columns) if (r, c) not in taken]
        if not free:
            found.append(list(parts))
            return
        top, left = free[0]
        for height in range(1, rows - top + 1):
            for width in range(1, columns - left + 1):
                block = {(r, c) for r in range(top, top + height) for c in range(left, left + width)}
                if not block & taken:
                    fill(taken | block, parts + [(top, left, height, width)])

    fill(frozenset(), [])
    return found


def small_tables():
    """Every table of up to 3 rows and 3 columns, each cell with a word of its own."""
    tables = []
    for rows in range(1, 4):
        for columns in range(1, 4):
            for parts in tilings(rows, columns):
                cells = [part + ((f"w{k}",),) for k, part in enumerate(parts)]
                tables.append((rows, columns, cells))
    return tables


def grid_of(table):
    """The grid of a table, with the words of its cells."""
    rows, columns, cells = table
    grid = [[None] * columns for _ in range(rows)]
    for name, (top, left, height, width, _) in enumerate(cells):
        for row in range(top, top + height):
            for column in range(left, left + width):
                assert grid[row][column] is None
                grid[row][column] = name
    return grid, {name: cell[4] for name, cell in enumerate(cells)}


def table_of(grid, words):
    """The table of a grid in which each name stands at the places of a block."""
    spots = {}
    for row, names in enumerate(grid):
        for column, name in enumerate(names):
            spots.setdefault(name, []).append((row, column))
    cells = []
    for name, held in spots.items():
        top, left = held[0]
        bottom, right = held[-1]
        height, width = bottom - top + 1, right - left + 1
        assert height * width == len(held)
        cells.append((top, left, height, width, words.get(name, ())))
    return len(grid), len(grid[0]), cells


def by_grid(table, change):
    """The table whose grid is the changed grid of a table."""
    grid, words = grid_of(table)
    return table_of(change(grid), words)


def chooser(seed):
    """Tells one number after the other below a bound, the same ones for the same seed."""
    state = [seed]

    def chosen(many):
        state[0] = (state[0] * 1103515245 + 12345) % 2 ** 31
        return (state[0] >> 16) % many

    return chosen


def large_tables():
    """Some tables of up to 16 rows and columns with cells of many sizes, the same ones each time."""
    chosen = chooser(20)
    tables = []
    for rows, columns, longest in ((16, 16, 3), (16, 5, 7), (4, 16, 4), (11, 9, 2), (7, 7, 7), (1, 16, 5), (16, 1, 5)):
        for _ in range(6):
            tables.append(chosen_table(rows, columns, longest, chosen))
    return tables


def wordy_tables():
    """Some tables whose cells hold up to 12 words of up to 12 signs, the same ones each time."""
    chosen = chooser(7)
    tables = []
    for rows, columns, longest in ((1, 1, 1), (3, 3, 3), (2, 5, 4), (5, 2, 4), (4, 4, 2), (6, 6, 6), (16, 16, 4)):
        for most in (3, 6, 13):
            table = chosen_table(rows, columns, longest, chosen)
            cells = [cell[:4] + (chosen_words(chosen(most), chosen),) for cell in table[2]]
            tables.append((rows, columns, cells))
    return tables


def chosen_words(count, chosen):
    signs = "abcdefghijklmnopqrstuvwxyz0123456789"
    return tuple("".join(signs[chosen(36)] for _ in range(1 + chosen(12))) for _ in range(count))


def chosen_table(rows, columns, longest, chosen):
    taken = set()
    cells = []
    for top in range(rows):
        for left in range(columns):
            if (top, left) in taken:
                continue
            height = 1 + chosen(min(longest, rows - top))
            width = 1
            stop = 1 + chosen(longest)
            while width < stop and left + width < columns and (top, left + width) not in taken:
                width += 1
            words = tuple("ab0z"[chosen(4)] * (1 + chosen(2)) for _ in range(chosen(3)))
            cells.append((top, left, height, width, words))
            taken |= {(r, c) for r in range(top, top + height) for c in range(left, left + width)}
    return rows, columns, cells


def one_cell(rows, columns, *words):
    return (rows, columns, [(0, 0, rows, columns, words)])


def bands_by_grid(grid):
    """Whole rows are put together as long as a name goes on from one to the next."""
    found = []
    for row, names in enumerate(grid):
        if row and any(above == name for above, name in zip(grid[row - 1], names)):
            found[-1] = (found[-1][0], row + 1)
        else:
            found.append((row, row + 1))
    return found


def renamed(grid, words, mark):
    """The same grid and words under names that no other mark has."""
    return [[(mark, name) for name in names] for names in grid], {(mark, name): held for name, held in words.items()}


def lists_in(value):
    if isinstance(value, (list, tuple)):
        for part in value:
            yield from lists_in(part)
    if isinstance(value, list):
        yield value


def told_afresh(test, call, *given):
    """What a call tells, once it is seen that nothing handed in is changed and no list is kept or shared."""
    before = copy.deepcopy(given)
    told = call(*given)
    test.assertEqual(given, before)
    kept = copy.deepcopy(told)
    for held in list(lists_in(told)):
        held.clear()
    test.assertEqual(given, before)
    test.assertEqual(call(*given), kept)
    return kept


def refused(test, error, call, *given):
    """The error by which a call is refused, once it is seen that nothing handed in is changed."""
    before = copy.deepcopy(given)
    with test.assertRaises(error) as caught:
        call(*given)
    test.assertEqual(given, before)
    return caught.exception


def no_texts(text):
    """Things of many kinds that are no text, some of them near to this one."""
    return (
        None, True, False, 0, 1, -3, 2.5, float("nan"), b"", [], (), {}, set(), object(), len, str, (1, 1, []),
        text.encode(), bytearray(text.encode()), [text], (text,), {"text": text}, text.split("\n"), iter(text),
        one_cell(1, 1),
    )


def with_other_line_ends(text):
    """The text with its line ends, or the last of them, otherwise."""
    others = ("\n\n", "\r\n", "\r", "\v", "\f", "\x1c", "\x85", "\u2028", " ", "")
    return [text[:-1], text + "\n", "\n" + text, text + text, text + " "] + [text.replace("\n", end) for end in others]


def is_read(test, error, read, write, text):
    """Whether a text is read, once it is seen that the table is a table and is written as that very text."""
    try:
        told = read(text)
    except error:
        return False
    test.assertEqual(checked(told), told)
    test.assertEqual(write(told), text)
    return True


def is_plain_table(table):
    """Whether the parts of a table are of Python's own kinds."""
    if type(table) is not tuple or [type(part) for part in table] != [int, int, list]:
        return False
    for cell in table[2]:
        if type(cell) is not tuple or [type(part) for part in cell] != [int, int, int, int, tuple]:
            return False
    return all(type(word) is str for cell in table[2] for word in cell[4])
