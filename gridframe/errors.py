"""The refusals of Gridframe."""


class GridError(ValueError):
    pass


class TooBig(GridError):
    pass


class TooSmall(GridError):
    pass


class BadDrawing(GridError):
    pass


class BadPlain(GridError):
    pass


class BadTable(GridError):
    def __init__(self, at):
        GridError.__init__(self, f"no table, the fault is at {at!r}")
        self.at = at


class Crossing(GridError):
    def __init__(self, at):
        GridError.__init__(self, f"cell {at!r} lies only partly in the block")
        self.at = at


class TooTall(GridError):
    def __init__(self, at):
        GridError.__init__(self, f"band {at!r} has no room behind the head")
        self.at = at
