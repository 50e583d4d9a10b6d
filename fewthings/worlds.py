"""Worlds: the cells of a size, parts of it, and parts in which no cell is open."""

from fewthings.errors import NoPart, NoSize, NoWorld
from fewthings.plain import is_list, is_whole

MOST_THINGS = 4
VALUES_OF_TIES = 2


class Board:
    """How many things there are of each kind, and how many values each cell has, the cells in order; or NoSize."""

    def __init__(self, signs, size):
        self.many_things = dict(zip(signs.kinds(), checked_size(signs, size)))
        self.many_values = {}
        for name, places in signs.ties():
            for row in rows_of(self.many_things, places):
                self.many_values[(name, row)] = VALUES_OF_TIES
        for name, places, kind in signs.functions():
            for row in rows_of(self.many_things, places):
                self.many_values[(name, row)] = self.many_things[kind]


class World:
    """A book, a size, and a value for each cell; or NoSize, NoWorld."""

    def __init__(self, signs, size, part):
        board = Board(signs, size)
        try:
            known = known_cells(board, checked_part(board, part))
        except NoPart:
            raise NoWorld("the part is none of this size") from None
        if len(known) != len(board.many_values):
            raise NoWorld("a cell is open")
        self.kept_signs = signs
        self.kept_size = tuple(size)
        self.kept_part = known

    def signs(self):
        """The book."""
        return self.kept_signs

    def size(self):
        """How many things there are of each kind."""
        return list(self.kept_size)

    def part(self):
        """Each cell's value, the cells in order."""
        return dict(self.kept_part)

    def value(self, cell):
        """The cell's value, or NoPart."""
        return self.kept_part[checked_cell(self.kept_part, cell)]


def checked_size(signs, size):
    """The size, or NoSize."""
    if not is_list(size) or len(size) != len(signs.kinds()):
        raise NoSize("a size is a list with a number for each kind")
    for number in size:
        if not is_whole(number) or not 1 <= number <= MOST_THINGS:
            raise NoSize("of each kind there are one to four things")
    return size


def rows_of(many_things, places):
    """Each row of things for these places, in order."""
    rows = [()]
    for kind in places:
        rows = [row + (thing,) for row in rows for thing in range(many_things[kind])]
    return rows


def cells(signs, size):
    """The cells of the size, in order; or NoSize."""
    return list(Board(signs, size).many_values)


def values(signs, size, cell):
    """The cell's values, rising; or NoSize, NoPart."""
    board = Board(signs, size)
    return list(range(board.many_values[checked_cell(board.many_values, cell)]))


def checked_cell(known, cell):
    """The cell as tuples, if it is one that the dict tells something of, or NoPart."""
    if not is_list(cell) or len(cell) != 2:
        raise NoPart("a cell is a sign and a row")
    sign, row = cell
    # True would be found in the place of 1, and not everything can be asked for in a dict: so that is seen first.
    if not isinstance(sign, str) or not is_list(row) or not all([is_whole(thing) for thing in row]):
        raise NoPart("a cell is a sign's name and a row of whole numbers")
    plain = (sign, tuple(row))
    if plain not in known:
        raise NoPart("there is no such cell")
    return plain


def checked_part(board, part):
    """The part, with its cells as they are told, or NoPart."""
    if not isinstance(part, dict):
        raise NoPart("a part is a dict")
    checked = {}
    for cell, value in part.items():
        plain = checked_cell(board.many_values, cell)
        if not is_whole(value) or not 0 <= value < board.many_values[plain]:
            raise NoPart("that is none of the cell's values")
        checked[plain] = value
    return checked


def known_cells(board, part):
    """The values of the part's cells, and of those that have just one value, in order: any other cell is open."""
    known = {}
    for cell, many in board.many_values.items():
        if cell in part:
            known[cell] = part[cell]
        elif many == 1:
            known[cell] = 0
    return known
