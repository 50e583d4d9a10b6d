"""Papers: told case by case that no world of a size has a part and keeps sayings."""

from fewthings.holding import reading
from fewthings.sayings import all_looked_over
from fewthings.sizes import searchable_board
from fewthings.worlds import checked_part, known_cells


def paper(signs, sayings, size, part):
    """A paper for the part, or None where some world keeps the sayings; or NoSaying, NoSize, NoPart, TooMany."""
    board = searchable_board(signs, size)
    return paper_for(board, all_looked_over(signs, sayings), checked_part(board, part), None)


def paper_for(board, sayings, part, near):
    """A paper for the part, near the world that near tells unless it is None; or None where there is no paper."""
    known = known_cells(board, part)
    still_open = [cell for cell in board.many_values if cell not in known]
    return paper_of_cases(board, dict(enumerate(sayings)), known, still_open, near)


def paper_of_cases(board, numbered, known, still_open, near):
    """A paper for the known cells, the sayings told by their numbers, or None where there is none."""
    if near is not None and near.is_far(known):
        return ("far",)
    unsettled = {}
    for number, saying in numbered.items():
        told = reading(board, known, saying, {})
        if told == "no":
            return ("broken", number)
        # What is told over a part stays so over a greater one, and need not be asked again there.
        if told == "open":
            unsettled[number] = saying
    if not still_open:
        return None
    cell, *rest = still_open
    cases = []
    for value in range(board.many_values[cell]):
        greater = dict(known)
        greater[cell] = value
        one = paper_of_cases(board, unsettled, greater, rest, near)
        if one is None:
            return None
        cases.append(one)
    return ("cell", cell, tuple(cases))
