"""Things that the tests hand in: a book, and what is of no kind that the document tells."""

from fewthings.signs import Signs


class Odd:
    """An object that is no text, list or number, and is equal to everything."""

    def __eq__(self, other):
        return True

    def __hash__(self):
        return 0


def own_list():
    """A list that holds itself."""
    thing = ["and"]
    thing.append(thing)
    return thing


def anything():
    """One of each sort of thing, made anew each time."""
    return [
        0, 1, -1, 2, 10 ** 59, True, False, None, Ellipsis, 1j,
        "", "a", "x", "A", "abc", "(and)", "and", "=", "a\n", "\u00e9", "\ud800", "a" * 13,
        b"", b"a", b"(and)", bytearray(b"a"), memoryview(b"a"),
        {}, {"a": "a"}, {0: 1}, set(), {"a"}, frozenset(["a"]),
        [], (), [[]], ((),), [None], [0, 1], ["a", "a"], ("", ""), [b"and"], [True], own_list(),
        range(3), iter(["a"]), (letter for letter in "a"), {"a": 1}.keys(), {"a": ()}.items(),
        object(), Odd(), Odd, [Odd(), Odd()], len, str, ValueError("a"),
    ]


def anything_but(*fine):
    """The same things, without those that are written like the fine ones."""
    written = [repr(thing) for thing in fine]
    return [thing for thing in anything() if repr(thing) not in written]


def put(thing, path, new):
    """A copy of lists within lists, with the new thing at the path."""
    if not path:
        return new
    copied = list(thing)
    copied[path[0]] = put(copied[path[0]], path[1:], new)
    return copied


def lists_throughout(thing):
    """The same thing, with a list for each tuple."""
    if isinstance(thing, (list, tuple)):
        return [lists_throughout(part) for part in thing]
    return thing


def tuples_throughout(thing):
    """The same thing, with a tuple for each list."""
    if isinstance(thing, (list, tuple)):
        return tuple([tuples_throughout(part) for part in thing])
    return thing


def clear_throughout(thing):
    """Empties each list, and each list within it."""
    if isinstance(thing, (list, tuple)):
        for part in thing:
            clear_throughout(part)
    if isinstance(thing, list):
        thing.clear()


def book():
    """Two kinds, with ties and functions of each number of places."""
    return Signs(
        ["a", "b"],
        [("rain", ()), ("red", ("a",)), ("on", ("a", "b")), ("b", ("b", "b"))],
        [("zero", (), "a"), ("next", ("a",), "a"), ("of", ("a", "b"), "b"), ("one", (), "b")],
    )


def small_book():
    """One kind, with few cells."""
    return Signs(["a"], [("red", ("a",))], [("next", ("a",), "a")])


def house_book():
    """Two kinds, with a tie between them."""
    return Signs(["man", "house"], [("near", ("man", "house"))], [("home", ("man",), "house"), ("king", (), "man")])


def told_of(signs):
    """All that a book tells, to hold two of them against each other."""
    return (signs.kinds(), signs.ties(), signs.functions())
