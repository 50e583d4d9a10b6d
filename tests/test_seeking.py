import unittest

from fewthings.errors import FewError, NoSaying, NoSize, TooMany
from fewthings.bounds import can, first_with, must
from fewthings.holding import holds
from fewthings.seeking import first_world, least_world, worlds
from fewthings.signs import Signs
from fewthings.sizes import fillings, sizes_to
from fewthings.worlds import World, cells
from tests import plainly
from tests.test_sayings import NO_SAYINGS
from tests.test_worlds import NO_SIZES
from tests.things import anything, anything_but, book, clear_throughout, house_book, lists_throughout, small_book, \
    told_of

ORDER = Signs(["a"], [("less", ("a", "a"))], [])
THREE = ("some", "x", "a", ("some", "y", "a", ("some", "z", "a", ("not", ("or", ("=", "x", "y"), ("=", "x", "z"),
                                                                          ("=", "y", "z"))))))
TWO = ("some", "x", "a", ("some", "y", "a", ("not", ("=", "x", "y"))))
ORDERED = [
    ("all", "x", "a", ("not", ("less", "x", "x"))),
    ("all", "x", "a", ("all", "y", "a", ("or", ("=", "x", "y"), ("less", "x", "y"), ("less", "y", "x")))),
    ("all", "x", "a", ("all", "y", "a", ("all", "z", "a",
        ("or", ("not", ("less", "x", "y")), ("not", ("less", "y", "z")), ("less", "x", "z"))))),
]

# Books and sizes with 4096 fillings, and some with more.
JUST = [
    (Signs(["a"], [(name, ("a",)) for name in "rst"], []), [4]),
    (Signs(["a"], [], [("f", ("a",), "a"), ("g", (), "a"), ("h", (), "a")]), [4]),
    (Signs(["a", "b"], [("on", ("a", "b"))], []), [3, 4]),
]
MORE = [
    (Signs(["a"], [(name, ("a",)) for name in "rst"] + [("u", ())], []), [4], 8192),
    (Signs(["a"], [("u", ())], [("f", ("a",), "a"), ("g", ("a",), "a"), ("h", (), "a")]), [3], 4374),
    (Signs(["a", "b"], [("on", ("a", "b"))], []), [4, 4], 65536),
    (Signs(["a"], [], [(name, ("a", "a"), "a") for name in "abcdefgh"]), [4], 4 ** 128),
]


def parts(found):
    return [world.part() for world in found]


class Seeking(unittest.TestCase):
    def against_a_walk(self, signs, size, sayings):
        told = worlds(signs, sayings, size)
        walked = plainly.keeping(signs, size, sayings)
        self.assertEqual(parts(told), walked, sayings)
        first = first_world(signs, sayings, size)
        self.assertEqual(None if first is None else first.part(), walked[0] if walked else None, sayings)
        for world in told + ([] if first is None else [first]):
            self.assertIsInstance(world, World)
            self.assertEqual(world.size(), list(size))
            self.assertEqual(told_of(world.signs()), told_of(signs))
            self.assertTrue(all(holds(world, saying) for saying in sayings))
        return len(walked)

    def test_all_worlds_in_order(self):
        told = worlds(small_book(), [], [2])
        self.assertEqual([tuple(part.values()) for part in parts(told)],
                         [(one, two, three, four) for one in (0, 1) for two in (0, 1) for three in (0, 1)
                          for four in (0, 1)])
        self.assertEqual(parts(worlds(Signs(["a"], [], []), [], [4])), [{}])
        self.assertEqual(worlds(Signs(["a"], [], []), [("or",)], [4]), [])
        self.assertEqual(parts(worlds(Signs(["a"], [], [("f", ("a",), "a")]), [], [1])), [{("f", (0,)): 0}])

    def test_orders(self):
        self.assertEqual([len(worlds(ORDER, ORDERED, [number])) for number in (1, 2, 3)], [1, 2, 6])
        self.assertEqual([cell[1] for cell, value in first_world(ORDER, ORDERED, [3]).part().items() if value],
                         [(1, 0), (2, 0), (2, 1)])

    def test_no_world(self):
        for size in ([1], [2], [3]):
            self.assertEqual(worlds(small_book(), [("or",)], size), [])
            self.assertIsNone(first_world(small_book(), [("or",)], size))
        self.assertEqual(worlds(small_book(), [TWO], [1]), [])
        self.assertIsNone(first_world(small_book(), [TWO], [1]))
        one_by_one = [("all", "x", "a", ("red", "x")), ("some", "x", "a", ("not", ("red", "x")))]
        for said in one_by_one:
            self.assertIsNotNone(first_world(small_book(), [said], [2]))
        self.assertIsNone(first_world(small_book(), one_by_one, [2]))

    def test_against_a_walk_through_all_fillings(self):
        found = []
        for signs, size in ((small_book(), (1,)), (small_book(), [2]), (small_book(), [3]), (house_book(), [1, 1]),
                            (house_book(), [2, 1]), (house_book(), [1, 3]), (house_book(), [2, 2]), (book(), [2, 1])):
            sayer = plainly.Sayer(signs, 4)
            turns = 3 if signs.kinds() == ["a", "b"] else 12
            for turn in range(turns):
                found.append(self.against_a_walk(signs, size, sayer.sayings(turn % 4, 3)))
        self.assertIn(0, found)
        self.assertGreater(len(set(found)), 10)

    def test_no_saying(self):
        for thing in anything_but([], ()) + [("and",), "(and)", {("and",): 1}, {("and",)}, ("rain",)]:
            for asked in (lambda: worlds(book(), thing, [1, 1]), lambda: first_world(book(), thing, [1, 1]),
                          lambda: least_world(book(), thing, 2), lambda: least_world(book(), thing, 0)):
                with self.assertRaises(NoSaying, msg=repr(thing)[:60]) as taken:
                    asked()
                self.assertIsInstance(taken.exception, FewError)
        for thing in NO_SAYINGS + anything():
            for sayings in ([thing], [("or",), thing], (thing, ("and",))):
                for asked in (lambda: worlds(book(), sayings, [1, 1]), lambda: first_world(book(), sayings, [1, 1]),
                              lambda: least_world(book(), sayings, 2), lambda: least_world(book(), sayings, 0)):
                    with self.assertRaises(NoSaying, msg=repr(thing)[:60]):
                        asked()

    def test_no_size(self):
        for thing in NO_SIZES + anything():
            for sayings in ([], [("or",)]):
                with self.assertRaises(NoSize, msg=repr(thing)[:60]):
                    worlds(book(), sayings, thing)
                with self.assertRaises(NoSize, msg=repr(thing)[:60]):
                    first_world(book(), sayings, thing)
        for thing in anything_but(0, 1, 2) + [-1, 17, "3", [3], True]:
            with self.assertRaises(NoSize, msg=repr(thing)[:60]):
                least_world(book(), [], thing)

    def test_by_name_and_of_lists_and_tuples(self):
        said = [("some", "x", "a", ("red", "x"))]
        for sayings in (said, tuple(said), lists_throughout(said)):
            walked = plainly.keeping(small_book(), [2], said)
            self.assertEqual(parts(worlds(size=(2,), sayings=sayings, signs=small_book())), walked)
            self.assertEqual(first_world(size=(2,), sayings=sayings, signs=small_book()).part(), walked[0])
            self.assertEqual(least_world(total=2, sayings=sayings, signs=small_book()).size(), [1])

    def test_what_is_handed_in_and_told_may_be_changed(self):
        said = [("some", "x", "a", ("red", "x"))]
        handed, size = lists_throughout(said), [2]
        told = worlds(small_book(), handed, size)
        self.assertEqual((handed, size), (lists_throughout(said), [2]))
        clear_throughout(handed)
        size.clear()
        walked = plainly.keeping(small_book(), [2], said)
        self.assertEqual(parts(told), walked)
        told[0].part().clear()
        told[0].size().clear()
        self.assertEqual((parts(told), told[0].size(), told[1].size()), (walked, [2], [2]))
        told.clear()
        self.assertEqual(parts(worlds(small_book(), said, [2])), walked)


class Least(unittest.TestCase):
    def test_of_one_kind(self):
        for total in range(17):
            least = least_world(small_book(), [THREE], total)
            self.assertEqual(None if least is None else least.size(), None if total < 3 else [3])
            least = least_world(small_book(), [], total)
            self.assertEqual(None if least is None else (least.size(), set(least.part().values())),
                             None if total < 1 else ([1], {0}))
        self.assertIsNone(least_world(Signs(["a"], [], []), [("or",)], 16))

    def test_sizes_in_order(self):
        two_men = ("some", "x", "man", ("some", "y", "man", ("not", ("=", "x", "y"))))
        two_houses = ("some", "x", "house", ("some", "y", "house", ("not", ("=", "x", "y"))))
        for sayings, size in (([], [1, 1]), ([two_men], [2, 1]), ([two_houses], [1, 2]), ([two_houses, two_men], [2, 2]),
                              ([("or", two_houses, two_men)], [1, 2])):
            for total in range(7):
                least = least_world(house_book(), sayings, total)
                self.assertEqual(None if least is None else least.size(), None if total < sum(size) else size)

    def test_against_a_walk(self):
        for signs, totals in ((small_book(), (0, 1, 2, 3)), (house_book(), (1, 2, 3, 4))):
            sayer = plainly.Sayer(signs, 5)
            for turn in range(12):
                sayings = sayer.sayings(3, 3)
                for total in totals:
                    walked = [(size, filling) for size in sizes_to(signs, total)
                              for filling in plainly.keeping(signs, size, sayings)]
                    least = least_world(signs, sayings, total)
                    self.assertEqual(None if least is None else (least.size(), least.part()),
                                     walked[0] if walked else None)


class Many(unittest.TestCase):
    def refused(self, many, asked):
        with self.assertRaises(TooMany) as taken:
            asked()
        self.assertEqual(taken.exception.many, many)
        self.assertIsInstance(taken.exception, FewError)

    def test_as_many_as_are_gone_through(self):
        for signs, size in JUST:
            self.assertEqual(fillings(signs, size), 4096)
            told = worlds(signs, [], size)
            self.assertEqual(len(told), 4096)
            self.assertEqual(len({tuple(world.part().items()) for world in told}), 4096)
            self.assertEqual(set(first_world(signs, [], size).part().values()), {0})
            last = {cell: number - 1 for cell, number in plainly.many_values(signs, size).items()}
            self.assertEqual(told[-1].part(), last)
            self.assertEqual(first_with(signs, [], size, last).part(), last)
            self.assertEqual(can(signs, [], size, {}),
                             {cell: list(range(number)) for cell, number in plainly.many_values(signs, size).items()})
            self.assertEqual(must(signs, [], size, {}), {})

    def test_more_are_refused_by_the_size_alone(self):
        for signs, size, many in MORE:
            self.assertEqual(fillings(signs, size), many)
            full = dict.fromkeys(cells(signs, size), 0)
            for sayings in ([], [("and",)], [("or",)]):
                self.refused(many, lambda: worlds(signs, sayings, size))
                self.refused(many, lambda: first_world(signs, sayings, size))
                for part in ({}, full):
                    self.refused(many, lambda: first_with(signs, sayings, size, part))
                    self.refused(many, lambda: can(signs, sayings, size, part))
                    self.refused(many, lambda: must(signs, sayings, size, part))

    def test_many_cells_of_one_value(self):
        signs = Signs(["a", "b"], [("r", ())], [(name, ("a", "a"), "b") for name in "fghijk"])
        self.assertEqual(fillings(signs, [4, 1]), 2)
        self.assertEqual([world.value(("r", ())) for world in worlds(signs, [], [4, 1])], [0, 1])

    def test_the_sizes_that_are_come_to(self):
        # Of one to three things there are 2, 16 and 512 fillings, of four 65536.
        never = ("not", ("and", THREE, THREE))
        self.assertIsNone(least_world(ORDER, [("or",)], 3))
        for total in (4, 5, 16):
            self.refused(65536, lambda: least_world(ORDER, [("or",)], total))
            self.assertEqual(least_world(ORDER, ORDERED + [THREE], total).size(), [3])
            self.assertEqual(least_world(ORDER, [never], total).size(), [1])
            self.refused(65536, lambda: least_world(ORDER, [("not", never), never], total))
        pair = Signs(["a", "b"], [("on", ("a", "b")), ("at", ("a", "b"))], [])
        # [2, 3] and [3, 2] have 4096 fillings, [2, 4] is the first size with more.
        self.refused(2 ** 16, lambda: least_world(pair, [("or",)], 16))
        self.refused(2 ** 16, lambda: least_world(pair, [("or",)], 6))
        self.assertIsNone(least_world(pair, [("or",)], 5))


if __name__ == "__main__":
    unittest.main()
