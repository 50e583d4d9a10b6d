"""Texts: a book of signs and sayings of it, written in rows and read from them."""

from fewthings.errors import NoSaying, NoSigns, NoText
from fewthings.sayings import all_looked_over, read_saying, write_saying
from fewthings.signs import Signs

# The sorts of rows, in the order in which they stand.
SORTS = ("kind", "tie", "function", "say")


class Text:
    """A book and sayings of it, kept in tuples so that nobody else can change them."""

    def __init__(self, signs, sayings):
        self.kept_signs = signs
        self.kept_sayings = tuple(all_looked_over(signs, sayings))

    def signs(self):
        """The book."""
        return self.kept_signs

    def sayings(self):
        """The sayings, each as tuples throughout."""
        return list(self.kept_sayings)


class Draft:
    """What the rows that are read so far tell."""

    def __init__(self):
        self.latest_sort = 0
        self.read_kinds = []
        self.read_ties = []
        self.read_functions = []
        self.read_sayings = []


def write_text(text):
    """The text, written."""
    signs = text.signs()
    rows = [("kind", kind) for kind in signs.kinds()]
    rows.extend([("tie", name) + places for name, places in signs.ties()])
    rows.extend([("function", name) + places + (kind,) for name, places, kind in signs.functions()])
    rows.extend([("say", write_saying(signs, saying)) for saying in text.sayings()])
    return "".join([" ".join(row) + "\n" for row in rows])


def read_text(text):
    """The Text that is so written, or NoText with the number of its first wrong row."""
    if not isinstance(text, str):
        raise NoText(0)
    *rows, rest = text.split("\n")
    draft = Draft()
    for number, row in enumerate(rows, start=1):
        try:
            read_row(draft, row)
        except (NoSigns, NoSaying):
            raise NoText(number) from None
    # What stands behind the last line feed is a row that lacks its own; and a book has a row at least.
    if rest or not rows:
        raise NoText(len(rows) + 1)
    return Text(drafted_signs(draft), draft.read_sayings)


def read_row(draft, row):
    """Puts what the row tells to the draft; NoSigns, NoSaying where no text can begin with it and the rows above."""
    word, *things = row.split(" ")
    if word not in SORTS or SORTS.index(word) < draft.latest_sort:
        raise NoSigns("no row begins so, or none here")
    draft.latest_sort = SORTS.index(word)
    if word != "say":
        read_sign(draft, word, things)
    # Each beginning of a right text is one itself, if it has a row; so a wrong row is found as soon as it is read.
    signs = drafted_signs(draft)
    if word == "say":
        draft.read_sayings.append(read_saying(signs, " ".join(things)))


def read_sign(draft, word, things):
    """Puts a kind, a tie or a function to the draft, if as many things are told as it needs."""
    if word == "kind" and len(things) == 1:
        draft.read_kinds.append(things[0])
    elif word == "tie" and things:
        draft.read_ties.append((things[0], things[1:]))
    elif word == "function" and len(things) > 1:
        draft.read_functions.append((things[0], things[1:-1], things[-1]))
    else:
        raise NoSigns("there are too many things in a row, or too few")


def drafted_signs(draft):
    """The book that the rows tell so far, or NoSigns."""
    return Signs(draft.read_kinds, draft.read_ties, draft.read_functions)
