"""The refusals: each straight under FewError, none under another one."""


class FewError(ValueError):
    """Any refusal."""


class NoSigns(FewError):
    """What is no book of signs."""


class NoSaying(FewError):
    """What is no saying of a book, or no list of sayings."""


class NoText(FewError):
    """What is no written text; row is the number of its first wrong row."""

    def __init__(self, row):
        self.row = row


class NoSize(FewError):
    """What is no size, or no total."""


class NoPart(FewError):
    """What is no part of a size, or no cell or value of it."""


class NoWorld(FewError):
    """What is no world, or no written one."""


class TooMany(FewError):
    """More fillings, or namings, than are gone through; many is how many."""

    def __init__(self, many):
        self.many = many


class NoNaming(FewError):
    """What is no naming of a size."""


class NoRow(FewError):
    """What is no row that a desk takes."""
