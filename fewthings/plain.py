"""What every file asks of a thing that is handed in, whatever it is."""

LETTERS = "abcdefghijklmnopqrstuvwxyz"
FIGURES = "0123456789"
LONGEST_NAME = 12


def is_list(thing):
    """Whether it is a list or a tuple: each may stand for the other."""
    return isinstance(thing, (list, tuple))


def is_name(thing):
    """Whether it is a text of one to twelve letters from a to z."""
    if not isinstance(thing, str) or not 1 <= len(thing) <= LONGEST_NAME:
        return False
    return all([sign in LETTERS for sign in thing])


def is_whole(thing):
    """Whether it is a whole number: for Python True and False are some, here they are none."""
    return isinstance(thing, int) and not isinstance(thing, bool)


def written_number(text):
    """The whole number that is so written, in figures without noughts ahead, or None."""
    if not text or (text[0] == "0" and text != "0"):
        return None
    number = 0
    for sign in text:
        if sign not in FIGURES:
            return None
        number = number * 10 + FIGURES.index(sign)
    return number
