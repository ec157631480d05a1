"""Tables for the tests, and a second way to think of them: a grid that names each place's cell."""


def tilings(rows, columns):
    """Every list of (top, left, height, width) in order that covers each place just once."""
    found = []

    def fill(taken, parts):
        free = [(r, c) for r in range(rows) for c in range(columns) if (r, c) not in taken]
        if not free:
            found.append(list(parts))
            return
        top, left = free[0]
        for height in range(1, rows - top + 1):
            for width in range(1, columns - left + 1):
                block = {(r, c) for r in range(top, top + height) for c in range(left, left + width)}
                if not block & taken:
                    fill(taken | block, parts + [(top, left, height, width)])

    fill(frozenset(), [])
    return found


def small_tables():
    """Every table of up to 3 rows and 3 columns, each cell with a word of its own."""
    tables = []
    for rows in range(1, 4):
        for columns in range(1, 4):
            for parts in tilings(rows, columns):
                cells = [part + ((f"w{k}",),) for k, part in enumerate(parts)]
                tables.append((rows, columns, cells))
    return tables


def grid_of(table):
    """The grid of a table, with the words of its cells."""
    rows, columns, cells = table
    grid = [[None] * columns for _ in range(rows)]
    for name, (top, left, height, width, _) in enumerate(cells):
        for row in range(top, top + height):
            for column in range(left, left + width):
                assert grid[row][column] is None
                grid[row][column] = name
    return grid, {name: cell[4] for name, cell in enumerate(cells)}


def table_of(grid, words):
    """The table of a grid in which each name stands at the places of a block."""
    spots = {}
    for row, names in enumerate(grid):
        for column, name in enumerate(names):
            spots.setdefault(name, []).append((row, column))
    cells = []
    for name, held in spots.items():
        top, left = held[0]
        bottom, right = held[-1]
        height, width = bottom - top + 1, right - left + 1
        assert height * width == len(held)
        cells.append((top, left, height, width, words.get(name, ())))
    return len(grid), len(grid[0]), cells
