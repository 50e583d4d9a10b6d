"""What can be, and what must be, where a part is told."""

from fewthings.seeking import worlds_with
from fewthings.sizes import MOST_FILLINGS
from fewthings.worlds import Board, known_cells


def first_with(signs, sayings, size, part):
    """The first world that has the part and keeps the sayings, or None; or NoSaying, NoSize, NoPart, TooMany."""
    found = worlds_with(signs, sayings, size, part, 1)
    return found[0] if found else None


def can(signs, sayings, size, part):
    """For each open cell the values that it can have, rising; or NoSaying, NoSize, NoPart, TooMany."""
    found = worlds_with(signs, sayings, size, part, MOST_FILLINGS)
    board = Board(signs, size)
    known = known_cells(board, part)
    bounds = {}
    for cell in board.many_values:
        if cell not in known:
            bounds[cell] = sorted({world.value(cell) for world in found})
    return bounds


def must(signs, sayings, size, part):
    """For each open cell that can have one value alone, this value; or NoSaying, NoSize, NoPart, TooMany."""
    bounds = can(signs, sayings, size, part)
    return {cell: told[0] for cell, told in bounds.items() if len(told) == 1}
