"""Worlds mended: the nearest ones that have another value at a cell, and papers that none is so near."""

from fewthings.papers import paper_for
from fewthings.reader import Reader
from fewthings.sayings import all_looked_over
from fewthings.seeking import worlds_with
from fewthings.sizes import MOST_FILLINGS, searchable_board
from fewthings.worlds import Board, checked_cell, checked_part


class Nearness:
    """What is near a world: what differs from it at so many cells at most, besides those that are put."""

    def __init__(self, world, put, many):
        self.aim = world.part()
        self.put = put
        self.most = many

    def is_far(self, part):
        """Whether the part differs from the world at more other cells."""
        return many_apart(self.aim, part, self.put) > self.most


def mended(sayings, world, cell, value):
    """How many other cells differ, and the nearest world, or None; or NoSaying, NoPart, TooMany."""
    put = part_with(world, cell, value)
    aim = world.part()
    told = None
    for found in worlds_with(world.signs(), sayings, world.size(), put, MOST_FILLINGS):
        many = many_apart(aim, found.part(), put)
        # Worlds come in order: of those that are as near the first stays.
        if told is None or many < told[0]:
            told = (many, found)
    return told


def near_paper(sayings, world, cell, value, many):
    """A paper near the world, or None where some world is so near; or NoSaying, NoPart, TooMany."""
    board = searchable_board(world.signs(), world.size())
    put = part_with(world, cell, value)
    return paper_for(board, all_looked_over(world.signs(), sayings), put, Nearness(world, put, many))


def is_near_paper(sayings, world, cell, value, many, thing):
    """Whether the thing, whatever it is, is a paper near the world; or NoSaying, NoPart."""
    put = part_with(world, cell, value)
    reader = Reader(world.signs(), sayings, world.size(), Nearness(world, put, many))
    return reader.takes(put, thing)


def part_with(world, cell, value):
    """The part with just that value at that cell, or NoPart."""
    board = Board(world.signs(), world.size())
    return checked_part(board, {checked_cell(board.many_values, cell): value})


def many_apart(aim, part, put):
    """At how many cells the part has another value than the aim, besides those that are put."""
    return len([cell for cell in part if cell not in put and part[cell] != aim[cell]])
