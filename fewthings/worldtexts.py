"""Worlds written in rows, and read from them."""

from fewthings.errors import NoSize, NoWorld
from fewthings.plain import written_number
from fewthings.worlds import World, cells


def write_world(world):
    """The world, written: its size, and a row for each cell."""
    rows = [["size"] + world.size()]
    for (sign, things), value in world.part().items():
        rows.append([sign] + list(things) + [value])
    return "".join([" ".join([str(word) for word in row]) + "\n" for row in rows])


def read_world(signs, text):
    """The world of the book that is so written, or NoWorld."""
    if not isinstance(text, str):
        raise NoWorld("what is written is a text")
    first, *rows = text.split("\n")
    size = [written_number(word) for word in first.split(" ")[1:]]
    try:
        in_order = cells(signs, size)
    except NoSize:
        raise NoWorld("the first row tells no size") from None
    # Values have one figure, since things go up to 3.
    world = World(signs, size, {cell: written_number(row[-1:]) for cell, row in zip(in_order, rows)})
    # What stands ahead of the values is not looked at above; here all is.
    if write_world(world) != text:
        raise NoWorld("a row is not as the world is written")
    return world
