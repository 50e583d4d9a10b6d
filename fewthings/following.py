"""What follows from sayings, which sayings hang on others, and where two lists of sayings part."""

from fewthings.holding import holds
from fewthings.papers import paper
from fewthings.sayings import all_looked_over, looked_over
from fewthings.seeking import least_world
from fewthings.sizes import sizes_to


def follows(signs, sayings, saying, total):
    """("yes", a paper for each size) or ("no", the least world against it); or NoSaying, NoSize, TooMany."""
    against = all_looked_over(signs, sayings) + [("not", looked_over(signs, saying))]
    world = least_world(signs, against, total)
    if world is not None:
        return ("no", world)
    return ("yes", {tuple(size): paper(signs, against, size, {}) for size in sizes_to(signs, total)})


def basis(signs, sayings, total):
    """The numbers of the sayings that follow from no others that stay, rising; or NoSaying, NoSize, TooMany."""
    said = all_looked_over(signs, sayings)
    # Where nothing is said no following asks for the total, and what is none is refused all the same.
    sizes_to(signs, total)
    staying = list(range(len(said)))
    for number in reversed(range(len(said))):
        others = [other for other in staying if other != number]
        against = [said[other] for other in others] + [("not", said[number])]
        if least_world(signs, against, total) is None:
            staying = others
    return staying


def parted(signs, one, other, total):
    """The first world that keeps one list alone, behind 0 or 1 for which, or None; or NoSaying, NoSize, TooMany."""
    first = ("and",) + tuple(all_looked_over(signs, one))
    second = ("and",) + tuple(all_looked_over(signs, other))
    apart = ("or", ("and", first, ("not", second)), ("and", second, ("not", first)))
    world = least_world(signs, [apart], total)
    if world is None:
        return None
    return (0 if holds(world, first) else 1, world)
