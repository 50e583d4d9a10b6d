import itertools
import math
import unittest

from fewthings.errors import FewError, NoNaming, NoSize, TooMany
from fewthings.names import least_like, namings, naming_to, renamed, staying
from fewthings.signs import Signs
from fewthings.worlds import World, cells
from tests import plainly
from tests.test_worlds import NO_SIZES
from tests.things import anything, anything_but, book, house_book, lists_throughout, small_book, told_of

# Of three things the first is red; the first is next to the second, that to the third, and that to itself.
CHAIN = {("red", (0,)): 1, ("red", (1,)): 0, ("red", (2,)): 0, ("next", (0,)): 1, ("next", (1,)): 2, ("next", (2,)): 2}


def kinds_alone(many):
    return Signs(["a", "b", "c", "d"][:many], [], [])


def every_naming(size):
    """All namings, in order."""
    return [lists_throughout(naming) for naming in itertools.product(
        *[itertools.permutations(range(number)) for number in size])]


def called(signs, filling, naming):
    """The filling with each thing called by the naming."""
    calls = dict(zip(signs.kinds(), naming))
    told = {}
    for sign in signs.ties() + signs.functions():
        for (name, row), value in filling.items():
            if name == sign[0]:
                row = tuple(calls[kind][thing] for kind, thing in zip(sign[1], row))
                told[(name, row)] = value if len(sign) == 2 else calls[sign[2]][value]
    return {cell: told[cell] for cell in filling}


class Namings(unittest.TestCase):
    def refused(self, many, asked):
        with self.assertRaises(TooMany) as taken:
            asked()
        self.assertEqual(taken.exception.many, many)
        self.assertIsInstance(taken.exception, FewError)

    def test_in_order(self):
        self.assertEqual(namings(kinds_alone(1), [1]), [[[0]]])
        self.assertEqual(namings(kinds_alone(1), [3]),
                         [[[0, 1, 2]], [[0, 2, 1]], [[1, 0, 2]], [[1, 2, 0]], [[2, 0, 1]], [[2, 1, 0]]])
        self.assertEqual(namings(kinds_alone(2), [2, 2]),
                         [[[0, 1], [0, 1]], [[0, 1], [1, 0]], [[1, 0], [0, 1]], [[1, 0], [1, 0]]])
        self.assertEqual(namings(kinds_alone(2), (1, 2)), [[[0], [0, 1]], [[0], [1, 0]]])
        self.assertEqual(namings(kinds_alone(2), (2, 1)), [[[0, 1], [0]], [[1, 0], [0]]])

    def test_every_size(self):
        for kinds in (1, 2, 3, 4):
            for size in itertools.product(range(1, 5), repeat=kinds):
                many = math.prod(math.factorial(number) for number in size)
                if many > 576:
                    self.refused(many, lambda: namings(kinds_alone(kinds), size))
                else:
                    self.assertEqual(namings(kinds_alone(kinds), list(size)), every_naming(size))

    def test_the_bound(self):
        self.assertEqual(len(namings(kinds_alone(2), [4, 4])), 576)
        self.assertEqual(len(namings(kinds_alone(4), [4, 1, 4, 1])), 576)
        self.assertEqual(len(namings(kinds_alone(4), [3, 4, 2, 2])), 576)
        self.refused(1152, lambda: namings(kinds_alone(3), [4, 4, 2]))
        self.refused(864, lambda: namings(kinds_alone(4), [3, 4, 3, 1]))
        self.refused(24 ** 4, lambda: namings(kinds_alone(4), [4, 4, 4, 4]))

    def test_no_size(self):
        for thing in NO_SIZES + anything():
            with self.assertRaises(NoSize, msg=repr(thing)[:60]):
                namings(book(), thing)

    def test_by_name(self):
        self.assertEqual(namings(size=[1], signs=kinds_alone(1)), [[[0]]])

    def test_lists_of_their_own(self):
        told = namings(kinds_alone(2), [2, 2])
        for naming in told:
            self.assertIsInstance(naming, list)
            for order in naming:
                self.assertIsInstance(order, list)
        told[0][0].clear()
        told[0].clear()
        self.assertEqual(told[1:], every_naming([2, 2])[1:])
        told[1][1].append(7)
        self.assertEqual(told[2:], every_naming([2, 2])[2:])
        self.assertEqual(namings(kinds_alone(2), [2, 2]), every_naming([2, 2]))


class Renamed(unittest.TestCase):
    def test_a_chain(self):
        told = renamed(World(small_book(), [3], CHAIN), [[2, 0, 1]])
        self.assertIsInstance(told, World)
        self.assertEqual((told.size(), told_of(told.signs())), ([3], told_of(small_book())))
        # The first is called 2 now, the second 0, the third 1.
        self.assertEqual(told.part(), {("red", (0,)): 0, ("red", (1,)): 0, ("red", (2,)): 1,
                                       ("next", (2,)): 0, ("next", (0,)): 1, ("next", (1,)): 1})

    def test_every_world_and_naming(self):
        for signs, size in ((small_book(), [2]), (house_book(), [2, 2]), (house_book(), [1, 2]), (house_book(), [3, 1])):
            for filling in plainly.fillings_in_order(signs, size):
                world = World(signs, size, filling)
                for naming in every_naming(size):
                    told = renamed(world, naming)
                    self.assertEqual(told.part(), called(signs, filling, naming))
                    back = [[order.index(thing) for thing in range(len(order))] for order in naming]
                    self.assertEqual(renamed(told, back).part(), filling)

    def test_signs_of_each_number_of_places(self):
        size = [3, 2]
        filling = {cell: at % number for at, (cell, number) in enumerate(plainly.many_values(book(), size).items())}
        world = World(book(), size, filling)
        for naming in every_naming(size):
            self.assertEqual(renamed(world, naming).part(), called(book(), filling, naming))

    def test_no_size_is_too_great(self):
        signs = Signs(["a", "b", "c", "d"], [("on", ("a", "d"))], [("f", ("b",), "c")])
        world = World(signs, [4] * 4, {cell: 0 for cell in cells(signs, [4] * 4)})
        told = renamed(world, [[3, 2, 1, 0]] * 4)
        self.assertEqual([told.value(("f", (thing,))) for thing in range(4)], [3] * 4)
        self.assertEqual(renamed(told, [[3, 2, 1, 0]] * 4).part(), world.part())

    def test_lists_and_tuples_by_name_and_what_is_handed_in_stays(self):
        world = World(small_book(), [3], CHAIN)
        for naming in ([[1, 2, 0]], ((1, 2, 0),), [(1, 2, 0)], ([1, 2, 0],)):
            self.assertEqual(renamed(naming=naming, world=world).part(), called(small_book(), CHAIN, [[1, 2, 0]]))
        naming = [[1, 2, 0]]
        told = renamed(world, naming)
        self.assertEqual(naming, [[1, 2, 0]])
        naming[0].clear()
        self.assertEqual(told.part(), called(small_book(), CHAIN, [[1, 2, 0]]))
        self.assertEqual(world.part(), CHAIN)

    def test_no_naming(self):
        world = World(house_book(), [2, 3], dict.fromkeys(cells(house_book(), [2, 3]), 0))
        self.assertEqual(renamed(world, [[0, 1], [0, 1, 2]]).part(), world.part())
        for thing in ([], [[0, 1]], [[0, 1], [0, 1, 2], []], [[0, 1], [0, 1, 2], [0]], [[0, 1, 2], [0, 1]], [[0], [0, 1, 2]],
                      [[0, 1], [0, 1]], [[0, 1], [0, 1, 2, 3]], [[0, 0], [0, 1, 2]], [[0, 1], [0, 1, 1]],
                      [[0, 1], [0, 2, 2]], [[1, 2], [0, 1, 2]], [[0, 1], [1, 2, 3]], [[0, 1], [0, 1, -1]],
                      [[0, True], [0, 1, 2]], [[False, 1], [0, 1, 2]], [[0, 1], [0, True, 2]], [["0", "1"], [0, 1, 2]],
                      ["01", "012"], "01", "", None, 0, True, {}, {0: [0, 1], 1: [0, 1, 2]}, [{0: 0, 1: 1}, [0, 1, 2]],
                      [[0, 1], None], [None, None], [[0, 1], {0, 1, 2}], [range(2), range(3)], range(2), [0, 1],
                      [[[0], [1]], [0, 1, 2]], [[None, 0], [0, 1, 2]], [b"\x00\x01", [0, 1, 2]], [[0, 1, 0, 1, 2]],
                      [[0, 1], [0, 1, 10 ** 59]], [[0, "1"], [0, 1, 2]], [[0, [1]], [0, 1, 2]]):
            with self.assertRaises(NoNaming, msg=repr(thing)) as taken:
                renamed(world, thing)
            self.assertIsInstance(taken.exception, FewError)

    def test_no_naming_of_anything(self):
        world = World(house_book(), [2, 3], dict.fromkeys(cells(house_book(), [2, 3]), 0))
        for thing in anything():
            with self.assertRaises(NoNaming, msg=repr(thing)[:60]):
                renamed(world, thing)
            with self.assertRaises(NoNaming, msg=repr(thing)[:60]):
                renamed(world, [[0, 1], thing])
            with self.assertRaises(NoNaming, msg=repr(thing)[:60]):
                renamed(world, [thing, [0, 1]])
        for thing in anything_but(1):
            with self.assertRaises(NoNaming, msg=repr(thing)[:60]):
                renamed(world, [[0, thing], [0, 1, 2]])
            with self.assertRaises(NoNaming, msg=repr(thing)[:60]):
                renamed(world, [[0, 1], [thing, 2, 0]])


class Like(unittest.TestCase):
    def against_a_walk(self, signs, size, fillings):
        names = every_naming(size)
        walked = {tuple(filling.items()): [called(signs, filling, naming) for naming in names] for filling in fillings}
        for filling in fillings:
            world = World(signs, size, filling)
            like = walked[tuple(filling.items())]
            least = min(like, key=lambda part: list(part.values()))
            self.assertIsInstance(least_like(world), World)
            self.assertEqual(least_like(world).part(), least)
            self.assertEqual((least_like(world).size(), told_of(least_like(world).signs())), (size, told_of(signs)))
            self.assertEqual(staying(world), [naming for naming, part in zip(names, like) if part == filling])
            for other in fillings[::7] + like:
                fine = [naming for naming, part in zip(names, like) if part == other]
                self.assertEqual(naming_to(world, World(signs, size, other)), fine[0] if fine else None)

    def test_every_world(self):
        for signs, size in ((small_book(), [1]), (small_book(), [2]), (house_book(), [2, 2]), (house_book(), [2, 1])):
            self.against_a_walk(signs, size, list(plainly.fillings_in_order(signs, size)))

    def test_some_greater_worlds(self):
        for signs, size in ((small_book(), [3]), (house_book(), [3, 2])):
            self.against_a_walk(signs, size, list(plainly.fillings_in_order(signs, size))[::37])

    def test_a_chain(self):
        world = World(small_book(), [3], CHAIN)
        # The red one is the last, so that the first cells are least; then the first is next to itself.
        self.assertEqual(list(least_like(world).part().values()), [0, 0, 1, 0, 0, 1])
        self.assertEqual(naming_to(world, least_like(world)), [[2, 1, 0]])
        self.assertEqual(staying(world), [[[0, 1, 2]]])
        plain = World(small_book(), [3], {**dict.fromkeys(CHAIN, 0), ("next", (1,)): 1, ("next", (2,)): 2})
        self.assertEqual(staying(plain), every_naming([3]))
        self.assertEqual(naming_to(plain, plain), [[0, 1, 2]])
        self.assertIsNone(naming_to(plain, world))
        self.assertIsNone(naming_to(world, plain))

    def test_unlike_books_and_sizes(self):
        one = World(Signs(["a"], [("red", ("a",))], []), [2], {("red", (0,)): 0, ("red", (1,)): 0})
        for kinds, ties, functions, size in ((["b"], [("red", ("b",))], [], [2]), (["a"], [("blue", ("a",))], [], [2]),
                                             (["a"], [("red", ("a",)), ("rain", ())], [], [2]), (["a"], [], [], [2]),
                                             (["a"], [], [("red", ("a",), "a")], [2]), (["a"], [("red", ("a",))], [], [3]),
                                             (["a", "b"], [("red", ("a",))], [], [2, 1]), (["a"], [("red", ("a",))], [], [1])):
            signs = Signs(kinds, ties, functions)
            other = World(signs, size, dict.fromkeys(cells(signs, size), 0))
            self.assertIsNone(naming_to(one, other))
            self.assertIsNone(naming_to(other, one))
        again = World(Signs(("a",), [["red", ["a"]]], ()), (2,), one.part())
        self.assertEqual(naming_to(one, again), [[0, 1]])

    def test_books_whose_signs_stand_otherwise(self):
        ties = [("red", ("a",)), ("blue", ("a",))]
        functions = [("zero", (), "a"), ("one", (), "b")]
        made = [World(Signs(kinds, ties[::tie_turn], functions[::function_turn]), [2, 2],
                      dict.fromkeys(cells(Signs(kinds, ties, functions), [2, 2]), 0))
                for kinds in (["a", "b"], ["b", "a"]) for tie_turn in (1, -1) for function_turn in (1, -1)]
        for one, other in itertools.product(made, repeat=2):
            self.assertEqual(naming_to(one, other), [[0, 1], [0, 1]] if one is other else None)

    def test_too_many(self):
        signs = Signs(["a", "b", "c"], [("red", ("a",))], [])
        size = [4, 4, 2]
        one = World(signs, size, dict.fromkeys(cells(signs, size), 0))
        other = World(signs, size, dict.fromkeys(cells(signs, size), 1))
        for asked in (lambda: naming_to(one, other), lambda: naming_to(one, one), lambda: least_like(one),
                      lambda: staying(one), lambda: namings(signs, size)):
            with self.assertRaises(TooMany) as taken:
                asked()
            self.assertEqual(taken.exception.many, 1152)

    def test_unlike_ones_ahead_of_too_many(self):
        signs = Signs(["a", "b", "c"], [("red", ("a",))], [])
        other_signs = Signs(["a", "b", "c"], [("blue", ("a",))], [])
        made = [World(signs, [4, 4, 2], dict.fromkeys(cells(signs, [4, 4, 2]), 0)),
                World(signs, [4, 4, 3], dict.fromkeys(cells(signs, [4, 4, 3]), 0)),
                World(signs, [1, 1, 1], dict.fromkeys(cells(signs, [1, 1, 1]), 0)),
                World(other_signs, [4, 4, 2], dict.fromkeys(cells(other_signs, [4, 4, 2]), 0))]
        for one, other in itertools.permutations(made, 2):
            self.assertIsNone(naming_to(one, other))

    def test_as_many_as_are_gone_through(self):
        signs = Signs(["a", "b"], [("on", ("a", "b"))], [])
        part = dict.fromkeys(cells(signs, [4, 4]), 0)
        one = World(signs, [4, 4], {**part, ("on", (0, 0)): 1})
        last = World(signs, [4, 4], {**part, ("on", (3, 3)): 1})
        self.assertEqual(least_like(one).part(), last.part())
        self.assertEqual(naming_to(one, last), [[3, 0, 1, 2], [3, 0, 1, 2]])
        self.assertEqual(len(staying(one)), 36)
        self.assertEqual(len(staying(World(signs, [4, 4], part))), 576)

    def test_by_name(self):
        world = World(small_book(), [3], CHAIN)
        self.assertEqual(naming_to(other=world, world=world), [[0, 1, 2]])
        self.assertEqual(least_like(world=world).part(), least_like(world).part())
        self.assertEqual(staying(world=world), [[[0, 1, 2]]])

    def test_what_is_told_may_be_changed(self):
        world = World(house_book(), [2, 2], dict.fromkeys(cells(house_book(), [2, 2]), 0))
        told = staying(world)
        wanted = [[[0, 1], [0, 1]]]
        self.assertEqual(told, wanted)
        told[0][0].clear()
        told.clear()
        naming_to(world, world)[0].clear()
        least_like(world).part().clear()
        self.assertEqual(staying(world), wanted)
        self.assertEqual(naming_to(world, world), wanted[0])
        self.assertEqual(least_like(world).part(), world.part())
        self.assertEqual(set(world.part().values()), {0})


if __name__ == "__main__":
    unittest.main()
