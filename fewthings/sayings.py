"""Sayings of a book: looked over, written, and read."""

from fewthings.errors import NoSaying
from fewthings.plain import is_list, is_name

# A list may hold itself; so what is deeper than any promised saying by far is refused, not followed on and on.
DEEPEST = 64


class SignTable:
    """The signs of a book by their names, and its kinds."""

    def __init__(self, signs):
        self.known_kinds = signs.kinds()
        self.tie_places = {name: places for name, places in signs.ties()}
        self.function_places = {name: places for name, places, kind in signs.functions()}
        self.function_kinds = {name: kind for name, places, kind in signs.functions()}


def looked_over(signs, thing):
    """The saying as tuples throughout, or NoSaying."""
    return checked_saying(SignTable(signs), thing, {}, DEEPEST)


def all_looked_over(signs, things):
    """The list of sayings, each as tuples throughout, or NoSaying."""
    if not is_list(things):
        raise NoSaying("sayings are a list")
    return [looked_over(signs, thing) for thing in things]


def checked_saying(table, thing, scope, room):
    """The saying as tuples; scope tells the kind of each variable in it, room how deep it may be."""
    word, things = word_and_things(thing, room)
    if word == "=":
        return checked_equation(table, things, scope, room - 1)
    if word == "not":
        check_many(things, 1)
    if word in ("not", "and", "or"):
        return tuple([word] + [checked_saying(table, part, scope, room - 1) for part in things])
    if word in ("all", "some"):
        return checked_binding(table, word, things, scope, room - 1)
    if word not in table.tie_places:
        raise NoSaying("no saying begins so")
    return tuple([word] + checked_row(table, things, table.tie_places[word], scope, room - 1))


def checked_equation(table, things, scope, room):
    """The saying that both things, terms of one kind, are one."""
    check_many(things, 2)
    left, left_kind = checked_term(table, things[0], scope, room)
    right, right_kind = checked_term(table, things[1], scope, room)
    if left_kind != right_kind:
        raise NoSaying("terms of two kinds are never one thing")
    return ("=", left, right)


def checked_binding(table, word, things, scope, room):
    """The saying about all or some things of a kind."""
    check_many(things, 3)
    variable, kind, part = things
    if not is_name(variable):
        raise NoSaying("a variable is a name")
    if not is_name(kind) or kind not in table.known_kinds:
        raise NoSaying("that is none of the kinds")
    # A scope of its own: behind this saying the variable is again what it was ahead of it.
    inner = dict(scope)
    inner[variable] = kind
    return (word, variable, kind, checked_saying(table, part, inner, room))


def checked_term(table, thing, scope, room):
    """The term, as tuples throughout if it is a function's, and its kind."""
    if isinstance(thing, str):
        if thing not in scope:
            raise NoSaying("a variable stands within no saying about it")
        return thing, scope[thing]
    name, things = word_and_things(thing, room)
    if name not in table.function_places:
        raise NoSaying("no term begins so")
    row = checked_row(table, things, table.function_places[name], scope, room - 1)
    return tuple([name] + row), table.function_kinds[name]


def checked_row(table, things, places, scope, room):
    """The terms as a list, if there is one of its kind for each place."""
    check_many(things, len(places))
    row = []
    for thing, place in zip(things, places):
        term, kind = checked_term(table, thing, scope, room)
        if kind != place:
            raise NoSaying("a term is of another kind than its place")
        row.append(term)
    return row


def word_and_things(thing, room):
    """What a tuple begins with, a text, and the list of what is behind it."""
    if room == 0 or not is_list(thing) or len(thing) == 0 or not isinstance(thing[0], str):
        raise NoSaying("a saying, or a function's term, is a tuple with a text first")
    word, *things = thing
    return word, things


def check_many(things, many):
    """NoSaying, where there are more or fewer things than that."""
    if len(things) != many:
        raise NoSaying("there are too many things, or too few")


def write_saying(signs, saying):
    """The saying, written."""
    return written(looked_over(signs, saying))


def written(thing):
    """A looked over saying, a term of it, or a name in it, written."""
    if isinstance(thing, str):
        return thing
    return "(" + " ".join([written(part) for part in thing]) + ")"


def read_saying(signs, text):
    """The saying that is so written, or NoSaying."""
    if not isinstance(text, str):
        raise NoSaying("what is written is a text")
    saying = looked_over(signs, bracketed(text))
    # The brackets are read without a look at the blanks; here they are looked at.
    if written(saying) != text:
        raise NoSaying("there is a blank too many, or too few")
    return saying


def bracketed(text):
    """What is written as lists, one for each pair of brackets, whatever blanks stand between."""
    rows = [[]]
    for word in text.replace("(", " ( ").replace(")", " ) ").split(" "):
        if word == "(":
            rows.append([])
        elif word == ")":
            row = rows.pop()
            if not rows:
                raise NoSaying("there is a closing bracket too many")
            rows[-1].append(row)
        elif word:
            rows[-1].append(word)
    if len(rows) != 1 or len(rows[0]) != 1:
        raise NoSaying("there is a closing bracket too few, or more than one saying")
    return rows[0][0]
