"""A small reader of papers: it knows how sayings are read over parts, and no more."""

from fewthings.errors import NoPart
from fewthings.holding import reading
from fewthings.plain import is_list, is_whole
from fewthings.sayings import all_looked_over
from fewthings.worlds import Board, checked_cell, checked_part, known_cells


class Reader:
    """Takes papers for the sayings and the size, near the world that near tells unless it is None."""

    def __init__(self, signs, sayings, size, near):
        self.board = Board(signs, size)
        self.said = all_looked_over(signs, sayings)
        self.places_of = {sign[0]: sign[1] for sign in signs.ties() + signs.functions()}
        self.kind_of = {name: kind for name, places, kind in signs.functions()}
        self.near = near

    def takes(self, part, thing):
        """Whether the thing, whatever it is, is a paper for the part."""
        word, things = word_and_rest(thing)
        if word == "broken":
            return len(things) == 1 and self.is_broken(part, things[0])
        if word == "cell":
            return len(things) == 2 and self.is_shut(part, things[0], things[1])
        return word == "far" and not things and self.near is not None and self.near.is_far(part)

    def is_broken(self, part, number):
        """Whether the saying with that number is "no" over the part."""
        if not is_whole(number) or not 0 <= number < len(self.said):
            return False
        return reading(self.board, known_cells(self.board, part), self.said[number], {}) == "no"

    def is_shut(self, part, cell, cases):
        """Whether the cell is open in the part, and the cases shut its values, one each."""
        plain = self.open_cell(part, cell)
        if plain is None or not is_list(cases) or len(cases) != self.board.many_values[plain]:
            return False
        for value, one in enumerate(cases):
            greater = dict(part)
            greater[plain] = value
            if not self.is_like(part, plain, value, one) and not self.takes(greater, one):
                return False
        return True

    def open_cell(self, part, cell):
        """The cell as tuples, or None where it is no cell that is open in the part."""
        try:
            plain = checked_cell(self.board.many_values, cell)
        except NoPart:
            return None
        return None if plain in known_cells(self.board, part) else plain

    def is_like(self, part, cell, value, thing):
        """Whether the thing is ("like", u), and u and the value can change their names and the part stays as it is."""
        word, things = word_and_rest(thing)
        sign, row = cell
        # Near a world no things are alike: that world may tell them apart where the part does not.
        if self.near is not None or word != "like" or len(things) != 1 or sign not in self.kind_of:
            return False
        lesser = things[0]
        if not is_whole(lesser) or not 0 <= lesser < value:
            return False
        kind = self.kind_of[sign]
        met = self.things_met(part, kind) + self.things_in_row(sign, row, kind)
        return lesser not in met and value not in met

    def things_met(self, part, kind):
        """The things of the kind in the rows of the part's cells, and those that it tells as values."""
        met = []
        for (sign, row), value in part.items():
            met.extend(self.things_in_row(sign, row, kind))
            if self.kind_of.get(sign) == kind:
                met.append(value)
        return met

    def things_in_row(self, sign, row, kind):
        """The things in a row of the sign that stand at places of the kind."""
        return [thing for place, thing in zip(self.places_of[sign], row) if place == kind]


def is_paper(signs, sayings, size, part, thing):
    """Whether the thing, whatever it is, is a paper for the part; or NoSaying, NoSize, NoPart."""
    reader = Reader(signs, sayings, size, None)
    return reader.takes(checked_part(reader.board, part), thing)


def word_and_rest(thing):
    """What a tuple begins with, a text, and the list of what is behind it; no word and nothing of any other thing."""
    if not is_list(thing) or len(thing) == 0 or not isinstance(thing[0], str):
        return "", []
    word, *things = thing
    return word, things
