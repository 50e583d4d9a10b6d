import unittest

from fewthings.errors import FewError, NoPart, NoSaying, NoSize
from fewthings.holding import holds, read_over
from fewthings.signs import Signs
from fewthings.worlds import World, cells
from tests import plainly
from tests.test_sayings import NO_SAYINGS
from tests.test_worlds import NO_CELLS, NO_SIZES
from tests.things import anything, anything_but, book, clear_throughout, house_book, lists_throughout, small_book

WORDS = {True: "yes", False: "no", None: "open"}
# Of two things the second is red, each is next to the other.
PART = {("red", (0,)): 0, ("red", (1,)): 1, ("next", (0,)): 1, ("next", (1,)): 0}

# What holds in the world with that part, and what does not.
HOLDS = [
    ("and",), ("not", ("or",)), ("some", "x", "a", ("red", "x")), ("not", ("all", "x", "a", ("red", "x"))),
    ("all", "x", "a", ("not", ("=", ("next", "x"), "x"))), ("all", "x", "a", ("=", ("next", ("next", "x")), "x")),
    ("all", "x", "a", ("or", ("red", "x"), ("red", ("next", "x")))), ("and", ("and",), ("not", ("or",))),
    ("some", "x", "a", ("some", "y", "a", ("not", ("=", "x", "y")))), ("or", ("or",), ("and",)),
    ("all", "x", "a", ("some", "y", "a", ("=", ("next", "y"), "x"))),
    ("some", "x", "a", ("and", ("red", "x"), ("not", ("red", ("next", "x"))))),
    ("all", "x", "a", ("=", "x", "x")), ("some", "next", "a", ("red", ("next", "next"))),
    # the innermost one is meant, and behind it the outer one again
    ("all", "x", "a", ("some", "x", "a", ("red", "x"))),
    ("some", "x", "a", ("and", ("red", "x"), ("some", "x", "a", ("not", ("red", "x"))), ("red", "x"))),
]
FAILS = [
    ("or",), ("not", ("and",)), ("all", "x", "a", ("red", "x")), ("not", ("some", "x", "a", ("red", "x"))),
    ("some", "x", "a", ("=", ("next", "x"), "x")), ("and", ("and",), ("or",)), ("or", ("or",), ("not", ("and",))),
    ("all", "x", "a", ("all", "y", "a", ("=", "x", "y"))), ("some", "x", "a", ("and", ("red", "x"), ("red", ("next", "x")))),
    ("some", "x", "a", ("all", "y", "a", ("=", ("next", "y"), "x"))), ("all", "x", "a", ("red", ("next", "x"))),
    ("some", "x", "a", ("all", "x", "a", ("red", "x"))),
    ("some", "x", "a", ("and", ("red", "x"), ("some", "x", "a", ("red", "x")), ("not", ("red", "x")))),
]

FORMS = [
    ("near", ("king",), ("home", ("king",))),
    ("=", ("king",), ("king",)),
    ("=", ("home", ("king",)), ("home", ("king",))),
    ("all", "x", "man", ("near", "x", ("home", "x"))),
    ("some", "x", "man", ("not", ("=", "x", ("king",)))),
    ("all", "x", "house", ("some", "y", "man", ("=", ("home", "y"), "x"))),
    ("some", "x", "house", ("all", "y", "man", ("near", "y", "x"))),
    ("all", "x", "man", ("all", "y", "man", ("or", ("=", "x", "y"), ("not", ("=", ("home", "x"), ("home", "y")))))),
    ("and",), ("or",), ("and", ("near", ("king",), ("home", ("king",))), ("or",)),
    ("or", ("near", ("king",), ("home", ("king",))), ("and",)),
    ("all", "x", "man", ("some", "x", "house", ("near", ("king",), "x"))),
    ("some", "x", "man", ("and", ("some", "x", "house", ("near", ("king",), "x")), ("=", "x", ("king",)))),
]


class Holding(unittest.TestCase):
    def test_what_holds(self):
        world = World(small_book(), [2], PART)
        for saying in HOLDS:
            self.assertIs(holds(world, saying), True, saying)
            self.assertIs(holds(world, ("not", saying)), False, saying)
        for saying in FAILS:
            self.assertIs(holds(world, saying), False, saying)
            self.assertIs(holds(world, ("not", saying)), True, saying)

    def test_signs_of_each_number_of_places(self):
        part = dict.fromkeys(cells(book(), [2, 3]), 0)
        told = [("rain",), ("red", ("zero",)), ("on", ("zero",), ("one",)), ("b", ("one",), ("of", ("zero",), ("one",)))]
        for at, cell in enumerate([("rain", ()), ("red", (0,)), ("on", (0, 0)), ("b", (0, 0))]):
            world = World(book(), [2, 3], {**part, cell: 1})
            self.assertEqual([holds(world, saying) for saying in told], [other == at for other in range(4)])
        world = World(book(), [2, 3], {**part, ("on", (1, 2)): 1, ("zero", ()): 1, ("one", ()): 1, ("of", (1, 1)): 2})
        self.assertTrue(holds(world, ("on", ("zero",), ("of", ("zero",), ("one",)))))
        self.assertFalse(holds(world, ("on", ("zero",), ("one",))))
        self.assertFalse(holds(world, ("on", ("next", ("zero",)), ("of", ("zero",), ("one",)))))

    def test_every_world_against_a_plain_reading(self):
        for signs, size in ((small_book(), [1]), (small_book(), [3]), (house_book(), [2, 2]), (house_book(), [3, 1])):
            sayings = plainly.Sayer(signs, 1).sayings(12, 4)
            for filling in plainly.fillings_in_order(signs, size):
                world = World(signs, size, filling)
                for saying in sayings:
                    told = plainly.tells(signs, size, filling, saying)
                    self.assertIs(holds(world, saying), told, saying)
                    self.assertEqual(read_over(signs, size, filling, saying), WORDS[told], saying)

    def test_by_name_and_of_lists(self):
        world = World(small_book(), [2], PART)
        for saying in HOLDS:
            self.assertIs(holds(saying=lists_throughout(saying), world=world), True)

    def test_no_saying(self):
        world = World(book(), [1, 1], dict.fromkeys(cells(book(), [1, 1]), 0))
        for thing in NO_SAYINGS + anything():
            with self.assertRaises(NoSaying, msg=repr(thing)[:60]) as taken:
                holds(world, thing)
            self.assertIsInstance(taken.exception, FewError)

    def test_no_part_of_an_and_goes_unseen(self):
        world = World(book(), [1, 1], dict.fromkeys(cells(book(), [1, 1]), 0))
        for saying in (("and", ("or",), ("snow",)), ("or", ("and",), ("snow",))):
            self.assertRaises(NoSaying, holds, world, saying)
            self.assertRaises(NoSaying, read_over, book(), [1, 1], {}, saying)

    def test_what_is_handed_in_stays(self):
        world = World(small_book(), [2], PART)
        saying = lists_throughout(HOLDS[-1])
        self.assertTrue(holds(world, saying))
        self.assertEqual(saying, lists_throughout(HOLDS[-1]))
        clear_throughout(saying)
        self.assertTrue(holds(world, HOLDS[-1]))
        self.assertEqual(world.part(), PART)


class OverParts(unittest.TestCase):
    def read(self, part, saying):
        return read_over(house_book(), [2, 2], part, saying)

    def test_terms(self):
        near = ("near", ("king",), ("home", ("king",)))
        full = {("king", ()): 1, ("home", (1,)): 0, ("near", (1, 0)): 1}
        self.assertEqual(self.read(full, near), "yes")
        self.assertEqual(self.read({**full, ("near", (1, 0)): 0}, near), "no")
        for cell in full:
            self.assertEqual(self.read({other: full[other] for other in full if other != cell}, near), "open")
        other_cells = {("king", ()): 0, ("home", (1,)): 0, ("near", (1, 0)): 1}
        self.assertEqual(self.read(other_cells, near), "open")

    def test_equations(self):
        self.assertEqual(self.read({}, ("=", ("king",), ("king",))), "open")
        self.assertEqual(self.read({("king", ()): 0}, ("=", ("king",), ("king",))), "yes")
        self.assertEqual(self.read({}, ("=", ("home", ("king",)), ("home", ("king",)))), "open")
        self.assertEqual(self.read({("king", ()): 0}, ("=", ("home", ("king",)), ("home", ("king",)))), "open")
        self.assertEqual(self.read({}, ("all", "x", "man", ("=", "x", "x"))), "yes")
        self.assertEqual(self.read({}, ("all", "x", "man", ("=", "x", ("king",)))), "open")
        self.assertEqual(self.read({("king", ()): 0}, ("all", "x", "man", ("=", "x", ("king",)))), "no")

    def test_a_term_with_an_open_term_is_open(self):
        # All homes are one house, and everybody is near every house: still it is open where the king lives.
        part = {("home", (0,)): 1, ("home", (1,)): 1}
        part.update({("near", (man, house)): 1 for man in (0, 1) for house in (0, 1)})
        self.assertEqual(self.read(part, ("all", "x", "house", ("=", ("home", ("king",)), ("home", ("king",))))), "open")
        self.assertEqual(self.read(part, ("near", ("king",), ("home", ("king",)))), "open")
        self.assertEqual(self.read(part, ("some", "x", "house", ("near", ("king",), "x"))), "open")
        for value in (0, 1):
            self.assertEqual(self.read({**part, ("king", ()): value}, ("near", ("king",), ("home", ("king",)))), "yes")

    def test_cells_of_one_value_are_known(self):
        signs = house_book()
        self.assertEqual(read_over(signs, [2, 1], {}, ("all", "x", "man", ("all", "y", "man",
                                                       ("=", ("home", "x"), ("home", "y"))))), "yes")
        self.assertEqual(read_over(signs, [2, 1], {}, ("=", ("home", ("king",)), ("home", ("king",)))), "open")
        self.assertEqual(read_over(signs, [1, 2], {}, ("=", ("king",), ("king",))), "yes")
        self.assertEqual(read_over(signs, [1, 2], {}, ("all", "x", "man", ("=", ("king",), "x"))), "yes")
        self.assertEqual(read_over(signs, [1, 1], {("near", (0, 0)): 1}, ("near", ("king",), ("home", ("king",)))), "yes")
        self.assertEqual(read_over(signs, [1, 1], {("near", (0, 0)): 0}, ("near", ("king",), ("home", ("king",)))), "no")
        self.assertEqual(read_over(signs, [1, 1], {}, ("near", ("king",), ("home", ("king",)))), "open")
        # A tie's cells have two values, however few things there are.
        self.assertEqual(read_over(Signs(["a"], [("rain", ())], []), [1], {}, ("rain",)), "open")

    def test_and_or_not(self):
        yes, no, dim = ("and",), ("or",), ("near", ("king",), ("home", ("king",)))
        told = {yes: "yes", no: "no", dim: "open"}
        for one in told:
            for other in told:
                both = {told[one], told[other]}
                self.assertEqual(self.read({}, ("and", one, other)),
                                 "no" if "no" in both else "open" if "open" in both else "yes")
                self.assertEqual(self.read({}, ("or", one, other)),
                                 "yes" if "yes" in both else "open" if "open" in both else "no")
            self.assertEqual(self.read({}, ("and", one)), told[one])
            self.assertEqual(self.read({}, ("or", one)), told[one])
        self.assertEqual(self.read({}, ("and",)), "yes")
        self.assertEqual(self.read({}, ("or",)), "no")
        self.assertEqual(self.read({}, ("not", yes)), "no")
        self.assertEqual(self.read({}, ("not", no)), "yes")
        self.assertEqual(self.read({}, ("not", dim)), "open")
        # It holds in every world, and yet it is open.
        self.assertEqual(self.read({}, ("or", dim, ("not", dim))), "open")

    def test_all_and_some(self):
        red = [("red", (0,)), ("red", (1,)), ("red", (2,))]
        for row in [(one, two, three) for one in (0, 1, None) for two in (0, 1, None) for three in (0, 1, None)]:
            part = {cell: value for cell, value in zip(red, row) if value is not None}
            self.assertEqual(read_over(small_book(), [3], part, ("all", "x", "a", ("red", "x"))),
                             "no" if 0 in row else "open" if None in row else "yes")
            self.assertEqual(read_over(small_book(), [3], part, ("some", "x", "a", ("red", "x"))),
                             "yes" if 1 in row else "open" if None in row else "no")

    def test_every_part_against_a_plain_reading(self):
        for signs, size, deep in ((small_book(), [2], 4), (house_book(), [2, 1], 4), (house_book(), [1, 2], 4)):
            sayings = plainly.Sayer(signs, 2).sayings(20, deep) + (FORMS if signs.kinds() == ["man", "house"] else [])
            for part in plainly.parts_of(signs, size):
                told = plainly.told_by(signs, size, part)
                for saying in sayings:
                    self.assertEqual(read_over(signs, size, part, saying),
                                     WORDS[plainly.tells(signs, size, told, saying)], (part, saying))

    def test_yes_and_no_hold_in_every_world_with_the_part_and_stay_over_greater_parts(self):
        for signs, size in ((small_book(), [2]), (house_book(), [2, 1])):
            sayings = plainly.Sayer(signs, 3).sayings(12, 3)
            fillings = list(plainly.fillings_in_order(signs, size))
            told = {}
            for part in plainly.parts_of(signs, size):
                told[tuple(part.items())] = [read_over(signs, size, part, saying) for saying in sayings]
            for items, readings in told.items():
                part = dict(items)
                for at, one in enumerate(readings):
                    if one == "open":
                        continue
                    self.assertEqual({holds(World(signs, size, filling), sayings[at])
                                      for filling in fillings if plainly.has(filling, part)}, {one == "yes"})
                for cell, many in plainly.many_values(signs, size).items():
                    for value in range(many) if cell not in part else []:
                        greater = {**part, cell: value}
                        row = tuple((other, greater[other]) for other in cells(signs, size) if other in greater)
                        for one, other in zip(readings, told[row]):
                            self.assertTrue(one == "open" or one == other)

    def test_no_size_no_part_no_saying(self):
        for thing in NO_SIZES + anything():
            with self.assertRaises(NoSize, msg=repr(thing)[:60]):
                read_over(book(), thing, {}, ("rain",))
        for thing in anything_but({}):
            with self.assertRaises(NoPart, msg=repr(thing)[:60]):
                read_over(book(), [2, 3], thing, ("rain",))
        for cell in NO_CELLS:
            try:
                part = {cell: 0}
            except TypeError:
                continue
            with self.assertRaises(NoPart, msg=repr(cell)):
                read_over(book(), [2, 3], part, ("rain",))
        for thing in anything_but(0, 1):
            with self.assertRaises(NoPart, msg=repr(thing)[:60]):
                read_over(book(), [2, 3], {("rain", ()): thing}, ("rain",))
        for cell, value in ((("zero", ()), 2), (("one", ()), 3), (("one", ()), -1), (("next", (0,)), True)):
            self.assertRaises(NoPart, read_over, book(), [2, 3], {cell: value}, ("rain",))
        for thing in NO_SAYINGS + anything():
            with self.assertRaises(NoSaying, msg=repr(thing)[:60]):
                read_over(book(), [2, 3], {}, thing)

    def test_by_name_of_lists_and_what_is_handed_in_stays(self):
        size, part, saying = (2,), {("red", (0,)): 1}, ["some", "x", "a", ["red", "x"]]
        for turn in range(2):
            self.assertEqual(read_over(saying=saying, part=part, size=size, signs=small_book()), "yes")
        self.assertEqual((part, saying), ({("red", (0,)): 1}, ["some", "x", "a", ["red", "x"]]))


if __name__ == "__main__":
    unittest.main()
