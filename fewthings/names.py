"""Names: worlds whose things are called otherwise, and which worlds are like which."""

from fewthings.errors import NoNaming, TooMany
from fewthings.plain import is_list, is_whole
from fewthings.worlds import World, cells, checked_size

MOST_NAMINGS = 576


def namings(signs, size):
    """All namings of the size, in order; or NoSize, TooMany."""
    return [as_lists(naming) for naming in all_namings(signs, size)]


def renamed(world, naming):
    """The world whose things are called by the naming; or NoNaming."""
    return World(world.signs(), world.size(), renamed_part(world, checked_naming(world.size(), naming)))


def naming_to(world, other):
    """The first naming that makes the other of the world, or None; or TooMany."""
    if not are_of_one_size(world, other):
        return None
    aim = other.part()
    for naming in all_namings(world.signs(), world.size()):
        if renamed_part(world, naming) == aim:
            return as_lists(naming)
    return None


def least_like(world):
    """The first one, in order, of the worlds that are like this one; or TooMany."""
    in_order = cells(world.signs(), world.size())
    return World(world.signs(), world.size(), dict(zip(in_order, min(rows_like(world)))))


def staying(world):
    """The namings that leave the world as it is, in order; or TooMany."""
    part = world.part()
    found = all_namings(world.signs(), world.size())
    return [as_lists(naming) for naming in found if renamed_part(world, naming) == part]


def rows_like(world):
    """The values, the cells in order, of the world as each naming calls it, some perhaps twice; or TooMany."""
    in_order = cells(world.signs(), world.size())
    parts = [renamed_part(world, naming) for naming in all_namings(world.signs(), world.size())]
    return [tuple([part[cell] for cell in in_order]) for part in parts]


def as_lists(naming):
    """The naming as it is told: in lists that are its asker's own."""
    return [list(order) for order in naming]


def all_namings(signs, size):
    """All namings of the size, in order, as tuples; or NoSize, TooMany."""
    orders_of_kinds = [orders(number) for number in checked_size(signs, size)]
    many = 1
    for found in orders_of_kinds:
        many *= len(found)
    if many > MOST_NAMINGS:
        raise TooMany(many)
    rows = [()]
    for found in orders_of_kinds:
        rows = [row + (order,) for row in rows for order in found]
    return rows


def orders(number):
    """So many things, from 0 on, in each order they can stand in."""
    rows = [()]
    for place in range(number):
        rows = [row + (thing,) for row in rows for thing in range(number) if thing not in row]
    return rows


def checked_naming(size, naming):
    """The naming, or NoNaming."""
    if not is_list(naming) or len(naming) != len(size):
        raise NoNaming("a naming has a list for each kind")
    for order, number in zip(naming, size):
        if not is_list(order) or not all([is_whole(thing) for thing in order]):
            raise NoNaming("a kind's things are a list of whole numbers")
        if sorted(order) != list(range(number)):
            raise NoNaming("each thing of a kind stands once in its list")
    return naming


def renamed_part(world, naming):
    """What is at each cell of the world whose things are called by the naming."""
    signs = world.signs()
    calls = dict(zip(signs.kinds(), naming))
    places_of = {sign[0]: sign[1] for sign in signs.ties() + signs.functions()}
    kind_of = {name: kind for name, places, kind in signs.functions()}
    part = {}
    for (sign, row), value in world.part().items():
        called = tuple([calls[kind][thing] for kind, thing in zip(places_of[sign], row)])
        part[(sign, called)] = calls[kind_of[sign]][value] if sign in kind_of else value
    return part


def are_of_one_size(world, other):
    """Whether both worlds are of one book and one size."""
    one, two = world.signs(), other.signs()
    books = (one.kinds(), one.ties(), one.functions()) == (two.kinds(), two.ties(), two.functions())
    return books and world.size() == other.size()
