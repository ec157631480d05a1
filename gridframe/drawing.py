"""Tables drawn with signs."""

from gridframe.words import filled, layout


def drawn(table):
    told = layout(table)
    across = line_places(told[0])
    down = line_places(told[1])
    signs = [[" "] * (across[-1] + 1) for row in range(down[-1] + 1)]
    for cell in table[2]:
        cell_down = down[cell[0]:cell[0] + cell[2] + 1]
        cell_across = across[cell[1]:cell[1] + cell[3] + 1]
        draw_border(signs, cell_down, cell_across)
        draw_words(signs, cell_down, cell_across, cell[4])
    return "".join(["".join(row) + "\n" for row in signs])


def line_places(told):
    found = [0]
    for size in told:
        found.append(found[-1] + size + 1)
    return found


def draw_border(signs, down, across):
    for row in (down[0], down[-1]):
        put(signs, row, across[0], border(across, "-"))
    for at, sign in enumerate(border(down, "|")):
        put(signs, down[0] + at, across[0], [sign])
        put(signs, down[0] + at, across[-1], [sign])


def border(lines, sign):
    # A border that goes on where two lines meet comes there itself, also where the cell spans the other line.
    return ["+" if place in lines else sign for place in range(lines[0], lines[-1] + 1)]


def draw_words(signs, down, across, words):
    width = across[-1] - across[0] - 1
    for at, text in enumerate(filled(words, width)):
        put(signs, down[0] + 1 + at, across[0] + 1, text)


def put(signs, row, column, some):
    for at, sign in enumerate(some):
        signs[row][column + at] = sign
