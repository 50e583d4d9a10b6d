import unittest

from fewthings.classes import classes, how_many_like
from fewthings.errors import FewError, NoSaying, NoSize, TooMany
from fewthings.holding import holds
from fewthings.names import least_like, naming_to
from fewthings.seeking import worlds
from fewthings.signs import Signs
from fewthings.sizes import fillings
from fewthings.worlds import World, cells
from tests import plainly
from tests.test_names import CHAIN, called, every_naming
from tests.test_sayings import NO_SAYINGS
from tests.test_seeking import JUST, MORE, ORDER, ORDERED
from tests.test_worlds import NO_SIZES
from tests.things import anything, anything_but, book, clear_throughout, house_book, lists_throughout, small_book, \
    told_of

SOME_RED = [("some", "x", "a", ("red", "x"))]
# Few worlds and many namings.
RED_ONES = Signs(["a", "b", "c"], [("red", ("a",))], [])


def walked_classes(signs, size, sayings):
    """The part of each least world that keeps the sayings, in order, and how many are like it."""
    told = []
    for filling in plainly.keeping(signs, size, sayings):
        like = {tuple(called(signs, filling, naming).values()) for naming in every_naming(size)}
        if tuple(filling.values()) == min(like):
            told.append((filling, len(like)))
    return told


def parts_and_numbers(told):
    return [(world.part(), many) for world, many in told]


class Classes(unittest.TestCase):
    def against_a_walk(self, signs, size, sayings):
        told = classes(signs, sayings, size)
        self.assertEqual(parts_and_numbers(told), walked_classes(signs, size, sayings), sayings)
        self.assertIsInstance(told, list)
        for one in told:
            self.assertIsInstance(one, tuple)
            world, many = one
            self.assertIsInstance(world, World)
            self.assertEqual((world.size(), told_of(world.signs())), (list(size), told_of(signs)))
            self.assertEqual(how_many_like(world), many)
            self.assertEqual(least_like(world).part(), world.part())
            self.assertTrue(all(holds(world, saying) for saying in sayings))
        self.assertEqual(sum(many for world, many in told), len(worlds(signs, sayings, size)))
        return len(told)

    def test_red_ones(self):
        told = classes(small_book(), [("all", "x", "a", ("=", "x", ("next", "x")))], [3])
        wanted = [{**dict.fromkeys(CHAIN, 0), ("next", (1,)): 1, ("next", (2,)): 2}]
        for thing in (2, 1, 0):
            wanted.append({**wanted[-1], ("red", (thing,)): 1})
        self.assertEqual(parts_and_numbers(told), list(zip(wanted, (1, 3, 3, 1))))

    def test_orders(self):
        for number, many in ((1, 1), (2, 2), (3, 6)):
            told = classes(ORDER, ORDERED, [number])
            self.assertEqual([many for world, many in told], [many])
            self.assertEqual(told[0][0].part(), worlds(ORDER, ORDERED, [number])[0].part())

    def test_against_a_walk(self):
        found = []
        for signs, size in ((small_book(), (1,)), (small_book(), [2]), (small_book(), [3]), (house_book(), [1, 1]),
                            (house_book(), [2, 1]), (house_book(), [1, 3]), (house_book(), (2, 2)), (book(), [2, 1])):
            sayer = plainly.Sayer(signs, 8)
            for turn in range(2 if signs.kinds() == ["a", "b"] else 8):
                found.append(self.against_a_walk(signs, size, sayer.sayings(turn % 4, 3)))
        self.assertIn(0, found)
        self.assertIn(1, found)
        self.assertGreater(len(set(found)), 10)

    def test_each_world_is_like_just_one(self):
        for signs, size in ((small_book(), [3]), (house_book(), [2, 2])):
            for sayings in plainly.Sayer(signs, 9).sayings(3, 3), []:
                told = classes(signs, sayings, size)
                like = [0] * len(told)
                for world in worlds(signs, sayings, size):
                    found = [at for at, (least, many) in enumerate(told) if naming_to(world, least)]
                    self.assertEqual(len(found), 1)
                    like[found[0]] += 1
                self.assertEqual(like, [many for least, many in told])

    def test_no_world(self):
        self.assertEqual(classes(small_book(), [("or",)], [2]), [])
        self.assertEqual(classes(small_book(), SOME_RED + [("all", "x", "a", ("not", ("red", "x")))], [3]), [])
        self.assertEqual(classes(Signs(["a"], [], []), [("or",)], [4]), [])

    def test_no_signs(self):
        told = classes(Signs(["a"], [], []), [], [4])
        self.assertEqual(parts_and_numbers(told), [({}, 1)])

    def test_no_saying(self):
        for thing in anything_but([], ()) + [("and",), "(and)", {("and",): 1}, ("rain",)]:
            with self.assertRaises(NoSaying, msg=repr(thing)[:60]) as taken:
                classes(book(), thing, [1, 1])
            self.assertIsInstance(taken.exception, FewError)
        for thing in NO_SAYINGS + anything():
            for sayings in ([thing], [("or",), thing]):
                with self.assertRaises(NoSaying, msg=repr(thing)[:60]):
                    classes(book(), sayings, [1, 1])

    def test_no_size(self):
        for thing in NO_SIZES + anything():
            for sayings in ([], [("or",)]):
                with self.assertRaises(NoSize, msg=repr(thing)[:60]):
                    classes(book(), sayings, thing)

    def test_by_name_and_of_lists_and_tuples(self):
        wanted = walked_classes(small_book(), [3], SOME_RED)
        for sayings in (SOME_RED, tuple(SOME_RED), lists_throughout(SOME_RED)):
            for size in ([3], (3,)):
                self.assertEqual(parts_and_numbers(classes(size=size, sayings=sayings, signs=small_book())), wanted)
        self.assertEqual(how_many_like(world=World(small_book(), [3], CHAIN)), 6)

    def test_what_is_handed_in_and_told_may_be_changed(self):
        wanted = walked_classes(small_book(), [3], SOME_RED)
        handed, size = lists_throughout(SOME_RED), [3]
        told = classes(small_book(), handed, size)
        self.assertEqual((handed, size), (lists_throughout(SOME_RED), [3]))
        clear_throughout(handed)
        size.clear()
        self.assertEqual(parts_and_numbers(told), wanted)
        for world, many in told:
            world.part().clear()
            world.size().clear()
        self.assertEqual(parts_and_numbers(told), wanted)
        told.clear()
        self.assertEqual(parts_and_numbers(classes(small_book(), SOME_RED, [3])), wanted)


class HowMany(unittest.TestCase):
    def test_a_chain(self):
        self.assertEqual(how_many_like(World(small_book(), [3], CHAIN)), 6)
        plain = {**dict.fromkeys(CHAIN, 0), ("next", (1,)): 1, ("next", (2,)): 2}
        self.assertEqual(how_many_like(World(small_book(), [3], plain)), 1)
        self.assertEqual(how_many_like(World(small_book(), [3], {**plain, ("red", (1,)): 1})), 3)

    def test_every_world(self):
        for signs, size in ((small_book(), [2]), (house_book(), [2, 2]), (house_book(), [1, 3])):
            for filling in plainly.fillings_in_order(signs, size):
                like = {tuple(called(signs, filling, naming).values()) for naming in every_naming(size)}
                self.assertEqual(how_many_like(World(signs, size, filling)), len(like))

    def test_more_fillings_than_are_gone_through(self):
        self.assertEqual(fillings(ORDER, [4]), 65536)
        part = dict.fromkeys(cells(ORDER, [4]), 0)
        self.assertEqual(how_many_like(World(ORDER, [4], part)), 1)
        self.assertEqual(how_many_like(World(ORDER, [4], {**part, ("less", (0, 1)): 1})), 12)
        signs, size, many = MORE[-1]
        world = World(signs, size, dict.fromkeys(cells(signs, size), 2))
        self.assertEqual(how_many_like(world), 4)


class Many(unittest.TestCase):
    def refused(self, many, asked):
        with self.assertRaises(TooMany) as taken:
            asked()
        self.assertEqual(taken.exception.many, many)
        self.assertIsInstance(taken.exception, FewError)

    def test_fillings(self):
        for signs, size in JUST:
            self.assertEqual(fillings(signs, size), 4096)
            told = classes(signs, [], size)
            self.assertEqual(sum(many for world, many in told), 4096)
        for signs, size, many in MORE:
            for sayings in ([], [("and",)], [("or",)]):
                self.refused(many, lambda: classes(signs, sayings, size))

    def test_namings(self):
        for size, many in (([4, 4, 1], 576), ([4, 3, 2], 288), ([1, 4, 4], 576)):
            self.assertLessEqual(fillings(RED_ONES, size) * many, 20000)
            told = classes(RED_ONES, [], size)
            self.assertEqual(parts_and_numbers(told), walked_classes(RED_ONES, size, []))
            self.assertEqual([how_many_like(world) for world, many in told], [many for world, many in told])
        for size, many in (([4, 4, 2], 1152), ([3, 4, 4], 3456), ([4, 4, 4], 13824), ([2, 4, 4], 1152)):
            world = World(RED_ONES, size, dict.fromkeys(cells(RED_ONES, size), 0))
            self.refused(many, lambda: how_many_like(world))
            for sayings in ([], [("and",)], [("or",)]):
                self.refused(many, lambda: classes(RED_ONES, sayings, size))

    def test_many_of_both(self):
        signs = Signs(["a", "b"], [(name, ("a",)) for name in "rs"] + [("t", ("b",))], [])
        self.assertEqual(fillings(signs, [4, 4]), 4096)
        told = classes(signs, [], [4, 4])
        self.assertEqual((len(told), sum(many for world, many in told)), (175, 4096))


if __name__ == "__main__":
    unittest.main()
