"""A desk: it has a text, takes rows that ask of it, and tells texts."""

from fewthings.classes import classes
from fewthings.errors import NoRow
from fewthings.following import basis, follows
from fewthings.holding import holds
from fewthings.plain import written_number
from fewthings.sayings import read_saying
from fewthings.seeking import first_world, least_world
from fewthings.worldtexts import read_world, write_world

HOLDS = "holds\n"


def told_of_least(signs, sayings, things):
    """The least world to the total, written, or none."""
    return written_or_none(least_world(signs, sayings, one_number(things)))


def told_of_first(signs, sayings, things):
    """The first world of the size, written, or none."""
    return written_or_none(first_world(signs, sayings, numbers_in(things)))


def told_of_count(signs, sayings, things):
    """How many worlds of the size there are, and how many classes."""
    told = classes(signs, sayings, numbers_in(things))
    many_worlds = sum([many for world, many in told])
    return f"{many_worlds} {len(told)}"


def told_of_holds(signs, sayings, text):
    """Whether each saying holds in the written world."""
    world = read_world(signs, text)
    return " ".join(["yes" if holds(world, saying) else "no" for saying in sayings])


def told_of_follows(signs, sayings, things):
    """Whether the saying that is all behind the number follows to this, and if not a world against it."""
    if len(things) < 2:
        raise NoRow("there is no blank behind a number")
    total = one_number(things[:1])
    word, found = follows(signs, sayings, read_saying(signs, " ".join(things[1:])), total)
    return "yes" if word == "yes" else "no\n" + write_world(found)


def told_of_basis(signs, sayings, things):
    """The numbers of the sayings that stay."""
    return " ".join([str(number) for number in basis(signs, sayings, one_number(things))])


def written_or_none(world):
    """The world, written, or none where there is no world."""
    return "none" if world is None else write_world(world)


def one_number(things):
    """The one number that is written there, or NoRow."""
    numbers = numbers_in(things)
    if len(numbers) != 1:
        raise NoRow("there is a number too many")
    return numbers[0]


def numbers_in(things):
    """The numbers that are written there, one at least, or NoRow."""
    numbers = [written_number(thing) for thing in things]
    if not numbers or None in numbers:
        raise NoRow("a number lacks, or is not written as numbers are")
    return numbers


DEEDS = {
    "least": told_of_least,
    "first": told_of_first,
    "count": told_of_count,
    "follows": told_of_follows,
    "basis": told_of_basis,
}


class Desk:
    """A text, and what is told of it."""

    def __init__(self, text):
        self.kept_text = text

    def take(self, row):
        """What the row asks for, a text; or NoRow, NoSize, NoSaying, NoWorld, TooMany."""
        if not isinstance(row, str):
            raise NoRow("a row is a text")
        signs, sayings = self.kept_text.signs(), self.kept_text.sayings()
        # A written world has blanks, too, so its row is told from the others by its line feed.
        if row.startswith(HOLDS):
            return told_of_holds(signs, sayings, row[len(HOLDS):])
        word, *things = row.split(" ")
        if word not in DEEDS:
            raise NoRow("no row begins so")
        deed = DEEDS[word]
        return deed(signs, sayings, things)
