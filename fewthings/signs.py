"""Books of signs: kinds of things, and ties and functions of such things."""

from fewthings.errors import NoSigns
from fewthings.plain import is_list, is_name

MOST_KINDS = 4
MOST_SIGNS = 8
MOST_PLACES = 2
# Sayings begin with these, so that a sign called so could not be told from them.
WORDS_OF_SAYINGS = ("all", "some", "not", "and", "or")


class Signs:
    """A book of signs, kept in tuples so that nobody else can change it."""

    def __init__(self, kinds, ties, functions):
        self.kept_kinds = checked_kinds(kinds)
        if not is_list(ties) or not is_list(functions):
            raise NoSigns("ties and functions are lists")
        if len(ties) + len(functions) > MOST_SIGNS:
            raise NoSigns("there are too many signs")
        self.kept_ties = tuple([checked_tie(self.kept_kinds, tie) for tie in ties])
        self.kept_functions = tuple([checked_function(self.kept_kinds, function) for function in functions])
        check_apart([sign[0] for sign in self.kept_ties + self.kept_functions])

    def kinds(self):
        """The kinds' names, as they were handed in."""
        return list(self.kept_kinds)

    def ties(self):
        """The ties, each (name, places), as they were handed in."""
        return list(self.kept_ties)

    def functions(self):
        """The functions, each (name, places, kind of values), as they were handed in."""
        return list(self.kept_functions)


def checked_kinds(kinds):
    """The kinds as a tuple, or NoSigns."""
    if not is_list(kinds) or not 1 <= len(kinds) <= MOST_KINDS:
        raise NoSigns("kinds are a list of one to four names")
    for kind in kinds:
        if not is_name(kind):
            raise NoSigns("a kind is a name")
    check_apart(kinds)
    return tuple(kinds)


def checked_tie(kinds, tie):
    """The tie as tuples throughout, or NoSigns."""
    if not is_list(tie) or len(tie) != 2:
        raise NoSigns("a tie is its name and its places")
    name, places = tie
    return (checked_sign_name(name), checked_places(kinds, places))


def checked_function(kinds, function):
    """The function as tuples throughout, or NoSigns."""
    if not is_list(function) or len(function) != 3:
        raise NoSigns("a function is its name, its places and its values' kind")
    name, places, kind = function
    return (checked_sign_name(name), checked_places(kinds, places), checked_kind(kinds, kind))


def checked_sign_name(name):
    """The name, if a sign may be called so, or NoSigns."""
    if not is_name(name) or name in WORDS_OF_SAYINGS:
        raise NoSigns("a sign is called by a name that is no word of sayings")
    return name


def checked_places(kinds, places):
    """The places as a tuple, or NoSigns."""
    if not is_list(places) or len(places) > MOST_PLACES:
        raise NoSigns("places are a list of two kinds at most")
    return tuple([checked_kind(kinds, kind) for kind in places])


def checked_kind(kinds, kind):
    """The kind, if it is one of them, or NoSigns."""
    # What is no name may have an odd notion of being equal, so that is asked first.
    if not is_name(kind) or kind not in kinds:
        raise NoSigns("that is none of the kinds")
    return kind


def check_apart(names):
    """NoSigns, where one of the names stands twice."""
    if len(set(names)) != len(names):
        raise NoSigns("a name stands twice")
