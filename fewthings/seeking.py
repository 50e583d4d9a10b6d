"""Worlds sought: all of a size, the first of a size, and the least to a total, that keep sayings."""

from fewthings.holding import reading
from fewthings.sayings import all_looked_over
from fewthings.sizes import MOST_FILLINGS, searchable_board, sizes_to
from fewthings.worlds import World, checked_part, known_cells


def worlds(signs, sayings, size):
    """All worlds of the size that keep the sayings, in order; or NoSaying, NoSize, TooMany."""
    return worlds_with(signs, sayings, size, {}, MOST_FILLINGS)


def first_world(signs, sayings, size):
    """The first world of the size that keeps the sayings, or None; or NoSaying, NoSize, TooMany."""
    found = worlds_with(signs, sayings, size, {}, 1)
    return found[0] if found else None


def least_world(signs, sayings, total):
    """The first world of the first size to the total that has one, or None; or NoSaying, NoSize, TooMany."""
    # There may be no size to the total, and what are no sayings is refused all the same.
    checked = all_looked_over(signs, sayings)
    for size in sizes_to(signs, total):
        found = first_world(signs, checked, size)
        if found is not None:
            return found
    return None


def worlds_with(signs, sayings, size, part, most):
    """The first worlds, so many at most, that have the part and keep the sayings."""
    board = searchable_board(signs, size)
    known = known_cells(board, checked_part(board, part))
    still_open = [cell for cell in board.many_values if cell not in known]
    found = filled(board, all_looked_over(signs, sayings), known, still_open, most)
    return [World(signs, size, filling) for filling in found]


def filled(board, sayings, known, still_open, most):
    """The known cells with the open ones filled in all ways that keep the sayings, in order, so many at most."""
    unsettled = []
    for saying in sayings:
        told = reading(board, known, saying, {})
        if told == "no":
            return []
        # What is told over a part stays so over a greater one, and need not be asked again there.
        if told == "open":
            unsettled.append(saying)
    if not still_open:
        return [known]
    cell, *rest = still_open
    found = []
    for value in range(board.many_values[cell]):
        if len(found) < most:
            greater = dict(known)
            greater[cell] = value
            found.extend(filled(board, unsettled, greater, rest, most - len(found)))
    return found
