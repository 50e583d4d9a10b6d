"""Sizes: how many worlds each has, and which there are to a total."""

from fewthings.errors import NoSize, TooMany
from fewthings.plain import is_whole
from fewthings.worlds import MOST_THINGS, Board

MOST_FILLINGS = 4096
GREATEST_TOTAL = 16


def fillings(signs, size):
    """How many worlds the size has, or NoSize."""
    return fillings_of(Board(signs, size))


def fillings_of(board):
    """The numbers of all cells' values, multiplied."""
    product = 1
    for many in board.many_values.values():
        product *= many
    return product


def searchable_board(signs, size):
    """The board of a size whose worlds can all be gone through, or NoSize, TooMany."""
    board = Board(signs, size)
    many = fillings_of(board)
    if many > MOST_FILLINGS:
        raise TooMany(many)
    return board


def sizes_to(signs, total):
    """The sizes with so many things all together at most, in order; or NoSize."""
    if not is_whole(total) or not 0 <= total <= GREATEST_TOTAL:
        raise NoSize("a total is a whole number from 0 to 16")
    sizes = [[]]
    for kind in signs.kinds():
        sizes = [size + [number] for size in sizes for number in range(1, MOST_THINGS + 1)]
    return sorted([size for size in sizes if sum(size) <= total], key=lambda size: (sum(size), size))
