import itertools
import unittest

from fewthings.errors import FewError, NoPart, NoSaying, TooMany
from fewthings.holding import holds
from fewthings.mending import is_near_paper, mended, near_paper
from fewthings.signs import Signs
from fewthings.worlds import World, cells
from tests import plainly
from tests.test_papers import OTHERS, PAIR
from tests.test_sayings import NO_SAYINGS
from tests.test_seeking import JUST, MORE
from tests.test_worlds import NO_CELLS
from tests.things import anything, anything_but, book, clear_throughout, house_book, lists_throughout, small_book, \
    told_of, tuples_throughout

NEVER = [("or",)]
SHUT = ("broken", 0)
RED = ("all", "x", "a", ("red", "x"))
# All are red or none is; and who is red is next to itself.
ALL_OR_NONE = [("or", RED, ("all", "x", "a", ("not", ("red", "x"))))]
RED_ALONE = [("all", "x", "a", ("or", ("not", ("red", "x")), ("=", "x", ("next", "x"))))]
GREAT = 10 ** 59


def plain_world(signs, size):
    return World(signs, size, dict.fromkeys(cells(signs, size), 0))


def walked_mending(signs, size, sayings, filling, cell, value):
    """How many other cells differ, and the filling, or None."""
    told = []
    for other in plainly.keeping(signs, size, sayings, {cell: value}):
        told.append((len([at for at in filling if at != cell and filling[at] != other[at]]), list(other.values())))
    if not told:
        return None
    many, row = min(told)
    return (many, dict(zip(filling, row)))


class Mended(unittest.TestCase):
    def against_a_walk(self, signs, size, sayings, filling, cell, value):
        walked = walked_mending(signs, size, sayings, filling, cell, value)
        told = mended(sayings, World(signs, size, filling), cell, value)
        if told is None:
            self.assertIsNone(walked)
            return None
        self.assertIsInstance(told, tuple)
        many, world = told
        self.assertIsInstance(world, World)
        self.assertEqual((many, world.part()), walked, (sayings, filling, cell, value))
        self.assertEqual((world.size(), told_of(world.signs())), (list(size), told_of(signs)))
        self.assertTrue(all(holds(world, saying) for saying in sayings) and world.value(cell) == value)
        return many

    def test_red_ones(self):
        world = plain_world(small_book(), [3])
        many, told = mended(ALL_OR_NONE, world, ("red", (1,)), 1)
        self.assertEqual((many, told.part()), (2, {**world.part(), ("red", (0,)): 1, ("red", (1,)): 1, ("red", (2,)): 1}))
        many, told = mended(RED_ALONE, world, ("red", (1,)), 1)
        self.assertEqual((many, told.part()), (1, {**world.part(), ("red", (1,)): 1, ("next", (1,)): 1}))
        many, told = mended([], world, ("red", (1,)), 1)
        self.assertEqual((many, told.part()), (0, {**world.part(), ("red", (1,)): 1}))
        many, told = mended(ALL_OR_NONE, world, ("red", (1,)), 0)
        self.assertEqual((many, told.part()), (0, world.part()))
        self.assertIsNone(mended(NEVER, world, ("red", (1,)), 1))
        self.assertIsNone(mended([("not", RED), RED], world, ("red", (1,)), 0))

    def test_the_first_of_those_that_are_as_near(self):
        signs = Signs(["a"], [("red", ("a",))], [])
        some_other = [("some", "x", "a", ("some", "y", "a", ("and", ("not", ("=", "x", "y")), ("red", "x"), ("red", "y"))))]
        many, told = mended(some_other, plain_world(signs, [4]), ("red", (1,)), 1)
        self.assertEqual((many, list(told.part().values())), (1, [0, 1, 0, 1]))
        many, told = mended(some_other, plain_world(signs, [4]), ("red", (1,)), 0)
        self.assertEqual((many, list(told.part().values())), (2, [0, 0, 1, 1]))

    def test_a_world_that_keeps_nothing_itself(self):
        world = plain_world(small_book(), [2])
        many, told = mended([RED], world, ("red", (0,)), 1)
        self.assertEqual((many, list(told.part().values())), (1, [1, 1, 0, 0]))
        many, told = mended([RED], world, ("next", (0,)), 0)
        self.assertEqual((many, list(told.part().values())), (2, [1, 1, 0, 0]))

    def test_every_world_cell_and_value(self):
        found = []
        for signs, size in ((small_book(), [1]), (small_book(), [2]), (house_book(), [1, 2]), (house_book(), [2, 1])):
            sayer = plainly.Sayer(signs, 17)
            for turn in range(5):
                sayings = sayer.sayings(turn % 3, 3)
                for filling in list(plainly.fillings_in_order(signs, size))[turn % 2::2]:
                    for cell, number in plainly.many_values(signs, size).items():
                        for value in range(number):
                            found.append(self.against_a_walk(signs, size, sayings, filling, cell, value))
        self.assertTrue({None, 0, 1, 2} <= set(found))

    def test_cells_of_one_value(self):
        world = World(small_book(), [1], {("red", (0,)): 1})
        many, told = mended([("not", RED)], world, ("next", (0,)), 0)
        self.assertEqual((many, told.part()), (1, {("red", (0,)): 0, ("next", (0,)): 0}))
        many, told = mended([], world, ("next", (0,)), 0)
        self.assertEqual((many, told.part()), (0, world.part()))
        self.assertIsNone(mended(NEVER, world, ("next", (0,)), 0))

    def test_as_many_fillings_as_are_gone_through(self):
        for signs, size in JUST:
            world = plain_world(signs, size)
            cell = cells(signs, size)[-1]
            many, told = mended([], world, cell, 1)
            self.assertEqual((many, told.part()), (0, {**world.part(), cell: 1}))
            self.assertIsNone(near_paper([], world, cell, 1, 0))

    def test_by_name_of_lists_and_what_is_handed_in_stays(self):
        world = plain_world(small_book(), [2])
        sayings, cell = lists_throughout(ALL_OR_NONE), ["red", [1]]
        many, told = mended(value=1, cell=cell, world=world, sayings=sayings)
        self.assertEqual((sayings, cell), (lists_throughout(ALL_OR_NONE), ["red", [1]]))
        clear_throughout(sayings)
        clear_throughout(cell)
        self.assertEqual((many, list(told.part().values())), (1, [1, 1, 0, 0]))
        self.assertEqual(world.part(), plain_world(small_book(), [2]).part())
        told.part().clear()
        for handed in (("red", (1,)), ["red", (1,)], ("red", [1])):
            many, told = mended(tuple(ALL_OR_NONE), world, handed, 1)
            self.assertEqual((many, list(told.part().values())), (1, [1, 1, 0, 0]))


class Refused(unittest.TestCase):
    def each(self, sayings, world, cell, value):
        yield lambda: mended(sayings, world, cell, value)
        for many in (0, 3):
            yield lambda: near_paper(sayings, world, cell, value, many)
            for thing in (SHUT, ("far",), None):
                yield lambda: is_near_paper(sayings, world, cell, value, many, thing)

    def refused(self, error, sayings, world, cell, value):
        for asked in self.each(sayings, world, cell, value):
            with self.assertRaises(error, msg=repr((sayings, cell, value))[:90]) as taken:
                asked()
            self.assertIsInstance(taken.exception, FewError)

    def test_no_cell(self):
        world = plain_world(book(), [1, 1])
        for thing in NO_CELLS + anything():
            self.refused(NoPart, [], world, thing, 0)
            self.refused(NoPart, NEVER, world, thing, 1)
        for thing in NO_CELLS:
            self.refused(NoPart, NEVER, world, lists_throughout(thing), 0)

    def test_no_value(self):
        world = plain_world(house_book(), [1, 2])
        for cell, many in ((("near", (0, 0)), 2), (("home", (0,)), 2), (("king", ()), 1)):
            for thing in anything_but(0, 1) + [many, -1, 10 ** 59, "0", [0], True, False, None]:
                self.refused(NoPart, [], world, cell, thing)

    def test_no_saying(self):
        world = plain_world(book(), [1, 1])
        for thing in anything_but([], ()) + [("and",), "(and)", {("and",): 1}, ("rain",)]:
            self.refused(NoSaying, thing, world, ("rain", ()), 0)
        for thing in NO_SAYINGS + anything():
            self.refused(NoSaying, [thing], world, ("rain", ()), 0)
            self.refused(NoSaying, NEVER + [thing], world, ("rain", ()), 0)

    def test_too_many_by_the_size_alone(self):
        for signs, size, many in MORE:
            world = plain_world(signs, size)
            cell = cells(signs, size)[0]
            for sayings in ([], [("and",)], NEVER):
                for asked in (lambda: mended(sayings, world, cell, 1), lambda: mended(sayings, world, cell, 0),
                              lambda: near_paper(sayings, world, cell, 1, 0),
                              lambda: near_paper(sayings, world, cell, 0, GREAT)):
                    with self.assertRaises(TooMany) as taken:
                        asked()
                    self.assertEqual(taken.exception.many, many)
            self.assertIs(is_near_paper(NEVER, world, cell, 1, 0, SHUT), True)
            self.assertIs(is_near_paper([], world, cell, 1, 0, SHUT), False)

    def test_many_namings_are_not_refused(self):
        signs = Signs(["a", "b", "c"], [("red", ("a",))], [])
        world = plain_world(signs, [4, 4, 4])
        self.assertEqual(mended(ALL_OR_NONE, world, ("red", (0,)), 1)[0], 3)
        self.assertIsNone(near_paper(ALL_OR_NONE, world, ("red", (0,)), 1, 3))
        told = near_paper(ALL_OR_NONE, world, ("red", (0,)), 1, 2)
        self.assertTrue(is_near_paper(ALL_OR_NONE, world, ("red", (0,)), 1, 2, told))


class NearPapers(unittest.TestCase):
    def both(self, sayings, world, cell, value, many, thing):
        """What the program says of a paper, held against the plain reading of the document."""
        told = is_near_paper(sayings, world, cell, value, many, thing)
        near = (world.part(), cell, many)
        wanted = plainly.shuts(world.signs(), world.size(), sayings, {cell: value}, thing, near)
        self.assertIs(told, wanted, (sayings, cell, value, many, thing))
        self.assertIs(is_near_paper(sayings, world, cell, value, many, lists_throughout(thing)), wanted)
        return told

    def test_told_just_where_no_world_is_so_near(self):
        found = []
        for signs, size in ((small_book(), [1]), (small_book(), [2]), (house_book(), [1, 2]), (house_book(), [2, 1])):
            sayer = plainly.Sayer(signs, 18)
            for turn in range(6):
                sayings = sayer.sayings(turn % 3, 3)
                filled = list(plainly.fillings_in_order(signs, size))
                filling = filled[turn * 5 % len(filled)]
                for cell, number in plainly.many_values(signs, size).items():
                    for value, many in itertools.product(range(number), (0, 1, 2, 3, 4, 5, GREAT)):
                        found.append(self.told(signs, size, sayings, filling, cell, value, many))
        self.assertGreater(found.count(True), 100)
        self.assertGreater(found.count(False), 100)

    def told(self, signs, size, sayings, filling, cell, value, many):
        nearest = walked_mending(signs, size, sayings, filling, cell, value)
        world = World(signs, size, filling)
        told = near_paper(sayings, world, cell, value, many)
        self.assertEqual(told is None, nearest is not None and nearest[0] <= many, (sayings, filling, cell, value, many))
        if told is not None:
            self.assertTrue(self.both(sayings, world, cell, value, many, told))
            self.assertEqual(repr(told), repr(tuples_throughout(told)))
            self.assertNotIn("like", repr(told))
        return told is None

    def test_red_ones(self):
        world = plain_world(small_book(), [2])
        self.assertIsNone(near_paper(ALL_OR_NONE, world, ("red", (0,)), 1, 1))
        self.assertIsNone(near_paper(ALL_OR_NONE, world, ("red", (0,)), 1, GREAT))
        told = near_paper(ALL_OR_NONE, world, ("red", (0,)), 1, 0)
        self.assertTrue(is_near_paper(ALL_OR_NONE, world, ("red", (0,)), 1, 0, told))
        for many in (1, 2, GREAT):
            self.assertFalse(is_near_paper(ALL_OR_NONE, world, ("red", (0,)), 1, many, told))
        right = ("cell", ("red", (1,)), (SHUT, ("far",)))
        self.assertIs(is_near_paper(ALL_OR_NONE, world, ("red", (0,)), 1, 0, right), True)
        for spoilt in (("cell", ("red", (1,)), (("far",), SHUT)), ("cell", ("red", (1,)), (SHUT, SHUT)), ("far",),
                       ("cell", ("red", (1,)), (("far",), ("far",))), SHUT, ("cell", ("red", (0,)), (SHUT, ("far",)))):
            self.assertIs(is_near_paper(ALL_OR_NONE, world, ("red", (0,)), 1, 0, spoilt), False)
        for cell, value in ((("red", (0,)), 0), (("red", (1,)), 1), (("next", (0,)), 1)):
            self.assertIs(is_near_paper(ALL_OR_NONE, world, cell, value, 0, right), False)

    def test_how_far(self):
        # The put cell differs, too, and does not count; a cell that is as in the world does not either.
        world = plain_world(small_book(), [2])
        inner = ("far",)
        for cell in (("next", (1,)), ("next", (0,)), ("red", (1,))):
            inner = ("cell", cell, (SHUT, inner))
        for many in (0, 1, 2, 3, 4, GREAT):
            self.assertEqual(self.both(NEVER, world, ("red", (0,)), 1, many, inner), many < 3)
            self.assertEqual(self.both(NEVER, world, ("red", (0,)), 0, many, inner), many < 3)
            same = ("cell", ("red", (1,)), (("far",), SHUT))
            self.assertFalse(self.both(NEVER, world, ("red", (0,)), 1, many, same))
            self.assertFalse(self.both(NEVER, world, ("red", (0,)), 1, many, ("far",)))

    def test_a_great_number(self):
        world = plain_world(small_book(), [2])
        for many in (GREAT, GREAT + 1, 10 ** 60 - 1):
            told = near_paper(NEVER, world, ("red", (0,)), 1, many)
            self.assertTrue(self.both(NEVER, world, ("red", (0,)), 1, many, told))
            self.assertIsNone(near_paper(ALL_OR_NONE, world, ("red", (0,)), 1, many))

    def test_no_like(self):
        world = plain_world(PAIR, [3, 1])
        right = ("cell", ("first", ()), (SHUT, SHUT, SHUT))
        self.assertTrue(self.both(NEVER, world, ("on", (0, 0)), 1, 0, right))
        for at, lesser in ((1, 0), (2, 0), (2, 1)):
            cases = tuple([("like", lesser) if place == at else SHUT for place in range(3)])
            self.assertFalse(self.both(NEVER, world, ("on", (0, 0)), 1, 0, ("cell", ("first", ()), cases)))
        self.assertFalse(self.both(NEVER, world, ("on", (0, 0)), 1, 0, ("like", 0)))

    def test_each_way_to_spoil_one(self):
        others = OTHERS + (("far", 0), ("far", ()), ("far", ("far",)), ["far"], (("far",),))
        world = plain_world(small_book(), [2])
        for sayings, cell, many, right in (
                (ALL_OR_NONE, ("red", (0,)), 0, ("cell", ("red", (1,)), (SHUT, ("far",)))),
                (RED_ALONE, ("red", (1,)), 0, ("cell", ("next", (1,)), (SHUT, ("far",)))),
                (NEVER, ("next", (1,)), 1, ("cell", ("red", (1,)), (SHUT, ("cell", ("red", (0,)), (SHUT, ("far",))))))):
            self.assertTrue(self.both(sayings, world, cell, 1, many, right))
            for spoilt in plainly.spoilt(right, others):
                self.both(sayings, world, cell, 1, many, spoilt)

    def test_things_that_are_none(self):
        world = plain_world(small_book(), [2])
        asked = (NEVER, world, ("red", (0,)), 1, 0)
        for thing in anything():
            self.assertIs(is_near_paper(*asked, thing), False)
            for whole in (("far", thing), (thing,), (thing, 0), ("cell", thing, (SHUT, SHUT)), ("like", thing),
                          ("cell", ("red", (1,)), thing), ("cell", ("red", (1,)), (SHUT, thing)),
                          ("cell", ("next", (0,)), (SHUT, ("like", thing))), ("cell", ("red", (thing, thing)), (SHUT, SHUT))):
                self.assertIs(is_near_paper(*asked, whole), False, repr(whole)[:90])
            if repr(thing) != "0":
                self.assertIs(is_near_paper(*asked, ("broken", thing)), False)
        own = ["cell", ("red", (1,)), [SHUT]]
        own[2].append(own)
        self.assertIs(is_near_paper(*asked, own), False)
        self.assertIs(is_near_paper(*asked, "far"), False)

    def test_cells_of_one_value(self):
        world = World(small_book(), [1], {("red", (0,)): 1})
        self.assertEqual(near_paper(NEVER, world, ("next", (0,)), 0, 0), SHUT)
        self.assertIsNone(near_paper([], world, ("next", (0,)), 0, 0))
        told = near_paper([("not", RED)], world, ("next", (0,)), 0, 0)
        self.assertTrue(self.both([("not", RED)], world, ("next", (0,)), 0, 0, told))
        self.assertTrue(self.both([("not", RED)], world, ("next", (0,)), 0, 0, ("cell", ("red", (0,)), (("far",), SHUT))))
        self.assertIsNone(near_paper([("not", RED)], world, ("next", (0,)), 0, 1))
        self.assertFalse(self.both(NEVER, world, ("red", (0,)), 0, 0, ("cell", ("next", (0,)), (SHUT,))))

    def test_by_name_of_lists_and_what_is_handed_in_stays(self):
        world = plain_world(small_book(), [2])
        sayings, cell = lists_throughout(ALL_OR_NONE), ["red", [0]]
        told = near_paper(many=0, value=1, cell=cell, world=world, sayings=sayings)
        handed = lists_throughout(told)
        taken = is_near_paper(thing=handed, many=0, value=1, cell=cell, world=world, sayings=sayings)
        self.assertIs(taken, True)
        self.assertEqual((sayings, cell, handed), (lists_throughout(ALL_OR_NONE), ["red", [0]], lists_throughout(told)))
        for thing in (sayings, cell, handed):
            clear_throughout(thing)
        self.assertTrue(self.both(ALL_OR_NONE, world, ("red", (0,)), 1, 0, told))
        self.assertEqual(near_paper(tuple(ALL_OR_NONE), world, ("red", (0,)), 1, 0), told)


if __name__ == "__main__":
    unittest.main()
