"""Classes: the worlds that keep sayings, of those that are like one another the least alone."""

from fewthings.names import all_namings, rows_like
from fewthings.seeking import worlds


def how_many_like(world):
    """How many worlds are like this one, itself too; or TooMany."""
    return len(set(rows_like(world)))


def classes(signs, sayings, size):
    """The least worlds that keep the sayings, in order, and how many are like each; or NoSaying, NoSize, TooMany."""
    # Namings are refused by the size alone, also where no world is there to be called by them.
    all_namings(signs, size)
    seen = {}
    told = []
    for world in worlds(signs, sayings, size):
        # Worlds come in order, and all that are like one of them come, too: so the first of these is their least.
        if tuple(world.part().values()) not in seen:
            rows = rows_like(world)
            for row in rows:
                seen[row] = True
            told.append((world, len(set(rows))))
    return told
