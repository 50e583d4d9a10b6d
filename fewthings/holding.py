"""What holds in a world, and what a saying tells over a part of one."""

from fewthings.sayings import looked_over
from fewthings.worlds import Board, checked_part, known_cells

TURNED = {"yes": "no", "no": "yes", "open": "open"}
# What the whole tells as soon as one of its sayings does, whatever the others tell.
DECISIVE = {"and": "no", "all": "no", "or": "yes", "some": "yes"}


def holds(world, saying):
    """Whether the saying holds in the world, or NoSaying."""
    checked = looked_over(world.signs(), saying)
    return reading(Board(world.signs(), world.size()), world.part(), checked, {}) == "yes"


def read_over(signs, size, part, saying):
    """What the saying tells over the part, "yes", "no" or "open"; or NoSize, NoPart, NoSaying."""
    board = Board(signs, size)
    known = known_cells(board, checked_part(board, part))
    return reading(board, known, looked_over(signs, saying), {})


def reading(board, known, saying, scope):
    """What a looked over saying tells over the known cells; scope tells the thing of each variable in it."""
    word, *things = saying
    if word == "=":
        return reading_of_equation(known, things, scope)
    if word == "not":
        return TURNED[reading(board, known, things[0], scope)]
    if word in ("and", "or"):
        return joined_reading(board, known, DECISIVE[word], [(part, scope) for part in things])
    if word in ("all", "some"):
        variable, kind, part = things
        scopes = [bound(scope, variable, thing) for thing in range(board.many_things[kind])]
        return joined_reading(board, known, DECISIVE[word], [(part, inner) for inner in scopes])
    value = value_at(known, word, things, scope)
    if value is None:
        return "open"
    return "yes" if value == 1 else "no"


def joined_reading(board, known, decisive, parts):
    """What sayings, each with its scope, tell together where one is enough for what is decisive."""
    told = TURNED[decisive]
    for part, scope in parts:
        one = reading(board, known, part, scope)
        if one == decisive:
            return decisive
        if one == "open":
            told = "open"
    return told


def reading_of_equation(known, terms, scope):
    """Whether both terms are one thing, as far as it is known."""
    left, right = [thing_of(known, term, scope) for term in terms]
    if left is None or right is None:
        return "open"
    return "yes" if left == right else "no"


def bound(scope, variable, thing):
    """The scope further in, where the variable stands for the thing."""
    inner = dict(scope)
    inner[variable] = thing
    return inner


def thing_of(known, term, scope):
    """The thing that a term is, or None where it is open."""
    if isinstance(term, str):
        return scope[term]
    name, *terms = term
    return value_at(known, name, terms, scope)


def value_at(known, sign, terms, scope):
    """The value at the sign's cell whose row are the terms' things, or None where one of these, or it, is open."""
    row = [thing_of(known, term, scope) for term in terms]
    if None in row:
        return None
    return known.get((sign, tuple(row)))
