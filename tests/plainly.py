"""What the document says of sizes, worlds and sayings, once more and as plainly as can be, to hold the program against."""

import itertools
import random


def many_things(signs, size):
    return dict(zip(signs.kinds(), size))


def many_values(signs, size):
    """Each cell, in order, with how many values it has."""
    things = many_things(signs, size)
    many = {}
    for sign in signs.ties() + signs.functions():
        for row in itertools.product(*[range(things[place]) for place in sign[1]]):
            many[(sign[0], row)] = 2 if len(sign) == 2 else things[sign[2]]
    return many


def fillings_in_order(signs, size):
    """Each world's part, in order."""
    many = many_values(signs, size)
    for row in itertools.product(*[range(number) for number in many.values()]):
        yield dict(zip(many, row))


def parts_of(signs, size):
    """Each part of the size, those with cells of one value left out and told."""
    many = many_values(signs, size)
    for row in itertools.product(*[[None] + list(range(number)) for number in many.values()]):
        yield {cell: value for cell, value in zip(many, row) if value is not None}


def told_by(signs, size, part):
    """The part, with the cells of one value."""
    told = {cell: 0 for cell, number in many_values(signs, size).items() if number == 1}
    told.update(part)
    return told


def has(filling, part):
    return all(filling[cell] == part[cell] for cell in part)


def thing_in(told, term, scope):
    if isinstance(term, str):
        return scope[term]
    row = tuple(thing_in(told, part, scope) for part in term[1:])
    return None if None in row else told.get((term[0], row))


def tells(signs, size, told, saying, scope=None):
    """True, False or None for open."""
    scope = scope or {}
    word = saying[0]
    if word in ("and", "or", "all", "some"):
        if word in ("and", "or"):
            within = [tells(signs, size, told, part, scope) for part in saying[1:]]
        else:
            things = range(many_things(signs, size)[saying[2]])
            within = [tells(signs, size, told, saying[3], {**scope, saying[1]: thing}) for thing in things]
        decisive = word in ("or", "some")
        if decisive in within:
            return decisive
        return None if None in within else not decisive
    if word == "not":
        within = tells(signs, size, told, saying[1], scope)
        return None if within is None else not within
    if word == "=":
        one, other = thing_in(told, saying[1], scope), thing_in(told, saying[2], scope)
        return None if None in (one, other) else one == other
    value = thing_in(told, saying, scope)
    return None if value is None else value == 1


def keeps(signs, size, filling, sayings):
    return all(tells(signs, size, filling, saying) for saying in sayings)


def keeping(signs, size, sayings, part=None):
    """The parts of all worlds that have the part and keep the sayings, in order."""
    return [filling for filling in fillings_in_order(signs, size)
            if has(filling, part or {}) and keeps(signs, size, filling, sayings)]


class Sayer:
    """Makes sayings of a book, the same ones each time."""

    def __init__(self, signs, seed):
        self.signs = signs
        self.chance = random.Random(seed)

    def term(self, kind, scope, deep):
        """A term of the kind; None where there is none."""
        fine = [name for name in scope if scope[name] == kind]
        fine += [function for function in self.signs.functions() if function[2] == kind and (deep or not function[1])]
        self.chance.shuffle(fine)
        for one in fine:
            if isinstance(one, str):
                return one
            row = self.row(one[1], scope, deep - 1)
            if row is not None:
                return (one[0],) + row
        return None

    def row(self, places, scope, deep):
        row = tuple(self.term(place, scope, deep) for place in places)
        return None if None in row else row

    def saying(self, deep, scope=None):
        scope = scope or {}
        words = ["=", "tie", "tie"] + (["not", "and", "or", "all", "some", "all", "some"] if deep else [])
        word = self.chance.choice(words)
        if word == "not":
            return ("not", self.saying(deep - 1, scope))
        if word in ("and", "or"):
            return (word,) + tuple(self.saying(deep - 1, scope) for turn in range(self.chance.choice([0, 1, 2, 2, 3])))
        if word in ("all", "some"):
            variable, kind = self.chance.choice("xy"), self.chance.choice(self.signs.kinds())
            return (word, variable, kind, self.saying(deep - 1, {**scope, variable: kind}))
        return self.short(word, scope)

    def short(self, word, scope):
        if word == "=":
            kind = self.chance.choice(self.signs.kinds())
            row = self.row((kind, kind), scope, 2)
            return ("and",) if row is None else ("=",) + row
        if not self.signs.ties():
            return ("or",)
        name, places = self.chance.choice(self.signs.ties())
        row = self.row(places, scope, 2)
        return ("or",) if row is None else (name,) + row

    def sayings(self, many, deep):
        return [self.saying(deep) for turn in range(many)]


def is_one_of(thing, many):
    """Whether it is a whole number from 0 on, less than so many."""
    return isinstance(thing, int) and not isinstance(thing, bool) and 0 <= thing < many


def things_in(signs, kind, cell):
    """The things of the kind in the cell's row."""
    places = {sign[0]: sign[1] for sign in signs.ties() + signs.functions()}[cell[0]]
    return {thing for place, thing in zip(places, cell[1]) if place == kind}


def can_be_like(signs, part, cell, lesser, value):
    """Whether the case of the value may be told to be like that of the lesser one."""
    kinds = {function[0]: function[2] for function in signs.functions()}
    if cell[0] not in kinds or not is_one_of(lesser, value):
        return False
    kind = kinds[cell[0]]
    met = things_in(signs, kind, cell)
    for told in part:
        met |= things_in(signs, kind, told)
        met |= {part[told]} if kinds.get(told[0]) == kind else set()
    return not met & {lesser, value}


def shuts(signs, size, sayings, part, thing, near=None):
    """Whether the thing is a paper for the part; near tells a world's filling, the cell that is put, and how many."""
    if not isinstance(thing, (list, tuple)) or not thing or not isinstance(thing[0], str):
        return False
    if thing[0] == "broken" and len(thing) == 2:
        return is_one_of(thing[1], len(sayings)) and \
            tells(signs, size, told_by(signs, size, part), sayings[thing[1]]) is False
    if thing[0] == "far" and len(thing) == 1 and near:
        filling, put, many = near
        return len([cell for cell in part if cell != put and part[cell] != filling[cell]]) > many
    if thing[0] != "cell" or len(thing) != 3 or not isinstance(thing[2], (list, tuple)):
        return False
    still_open = [cell for cell in many_values(signs, size) if cell not in told_by(signs, size, part)]
    found = [cell for cell in still_open if repr(cell) == repr(as_cell(thing[1]))]
    if not found or len(thing[2]) != many_values(signs, size)[found[0]]:
        return False
    for value, case in enumerate(thing[2]):
        if isinstance(case, (list, tuple)) and len(case) == 2 and case[0] == "like" and not near:
            if not can_be_like(signs, part, found[0], case[1], value):
                return False
        elif not shuts(signs, size, sayings, {**part, found[0]: value}, case, near):
            return False
    return True


def as_cell(thing):
    """The cell in tuples, where it is one in lists."""
    if isinstance(thing, (list, tuple)) and len(thing) == 2 and isinstance(thing[1], (list, tuple)):
        return (thing[0], tuple(thing[1]))
    return None


def many_broken(paper):
    """How many ("broken", k) a paper has."""
    if paper[0] == "cell":
        return sum(many_broken(case) for case in paper[2])
    return 1 if paper[0] == "broken" else 0


def spoilt(thing, others):
    """The thing with one thing in it taken out, put twice, exchanged with the next, or replaced by each of the others."""
    yield from others
    if not isinstance(thing, tuple):
        return
    for at in range(len(thing)):
        yield thing[:at] + thing[at + 1:]
        yield thing[:at + 1] + thing[at:]
        if at:
            yield thing[:at - 1] + (thing[at], thing[at - 1]) + thing[at + 1:]
        for part in spoilt(thing[at], others):
            yield thing[:at] + (part,) + thing[at + 1:]
