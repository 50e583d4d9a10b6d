import unittest

from fewthings.errors import FewError, NoSaying, NoSize, TooMany
from fewthings.following import basis, follows, parted
from fewthings.holding import holds
from fewthings.reader import is_paper
from fewthings.signs import Signs
from fewthings.sizes import sizes_to
from fewthings.worlds import World
from tests import plainly
from tests.test_sayings import NO_SAYINGS
from tests.test_seeking import ORDER, ORDERED, THREE, TWO
from tests.things import anything, anything_but, book, clear_throughout, house_book, lists_throughout, small_book, \
    told_of, tuples_throughout

RED = ("all", "x", "a", ("red", "x"))
SOME_RED = ("some", "x", "a", ("red", "x"))
NONE_RED = ("all", "x", "a", ("not", ("red", "x")))
FIXED = ("all", "x", "a", ("=", "x", ("next", "x")))
ALWAYS = ("and",)
NEVER = ("or",)
REDS = Signs(["a"], [("red", ("a",))], [])
PAIR = Signs(["a", "b"], [("on", ("a", "b")), ("at", ("a", "b"))], [])


def walked_against(signs, sayings, saying, total):
    """The size and the filling of each world that keeps the sayings and not this one, in order."""
    return [(size, filling) for size in sizes_to(signs, total)
            for filling in plainly.keeping(signs, size, list(sayings) + [("not", saying)])]


def walked_basis(signs, sayings, total):
    left = list(range(len(sayings)))
    for number in range(len(sayings) - 1, -1, -1):
        others = [other for other in left if other != number]
        if not walked_against(signs, [sayings[other] for other in others], sayings[number], total):
            left = others
    return left


def walked_parting(signs, one, other, total):
    for size in sizes_to(signs, total):
        for filling in plainly.fillings_in_order(signs, size):
            kept = [plainly.keeps(signs, size, filling, sayings) for sayings in (one, other)]
            if kept[0] != kept[1]:
                return (kept.index(True), size, filling)
    return None


class Refusing(unittest.TestCase):
    def refused(self, error, asked, many=None):
        with self.assertRaises(error) as taken:
            asked()
        self.assertIsInstance(taken.exception, FewError)
        if many is not None:
            self.assertEqual(taken.exception.many, many)

    def each_asked(self, signs, sayings, total):
        """Each way to ask something with these sayings and this total."""
        yield lambda: follows(signs, sayings, ALWAYS, total)
        yield lambda: basis(signs, sayings, total)
        yield lambda: parted(signs, sayings, [], total)
        yield lambda: parted(signs, [], sayings, total)


class Follows(Refusing):
    def told(self, signs, sayings, saying, total):
        """Asks, and holds what is told against a walk; tells the word."""
        walked = walked_against(signs, sayings, saying, total)
        told = follows(signs, sayings, saying, total)
        self.assertIsInstance(told, tuple)
        word, found = told
        self.assertEqual(word, "no" if walked else "yes", (sayings, saying, total))
        if walked:
            self.assertIsInstance(found, World)
            self.assertEqual((found.size(), found.part(), told_of(found.signs())), walked[0] + (told_of(signs),))
            self.assertTrue(all(holds(found, kept) for kept in sayings) and not holds(found, saying))
        else:
            self.assertEqual(list(found), [tuple(size) for size in sizes_to(signs, total)])
            for size, paper in found.items():
                self.assertEqual(repr(paper), repr(tuples_throughout(paper)))
                against = list(sayings) + [("not", saying)]
                self.assertTrue(is_paper(signs, against, size, {}, paper))
                self.assertTrue(plainly.shuts(signs, size, against, {}, paper))
        return word

    def test_red_ones(self):
        self.assertEqual(self.told(small_book(), [RED], SOME_RED, 2), "yes")
        self.assertEqual(self.told(small_book(), [SOME_RED], RED, 2), "no")
        self.assertEqual(self.told(small_book(), [SOME_RED], RED, 1), "yes")
        self.assertEqual(self.told(small_book(), [], SOME_RED, 2), "no")
        self.assertEqual(self.told(small_book(), [RED, NONE_RED], NEVER, 2), "yes")
        self.assertEqual(follows(small_book(), [SOME_RED], RED, 16)[1].size(), [2])

    def test_pigeons(self):
        signs = Signs(["man", "house"], [], [("home", ("man",), "house")])
        alone = ("all", "x", "man", ("all", "y", "man", ("or", ("=", "x", "y"), ("not", ("=", ("home", "x"), ("home", "y"))))))
        everywhere = ("all", "x", "house", ("some", "y", "man", ("=", "x", ("home", "y"))))
        self.assertEqual(self.told(signs, [alone], everywhere, 2), "yes")
        self.assertEqual(self.told(signs, [alone], everywhere, 3), "no")

    def test_no_size_to_the_total(self):
        for signs, totals in ((small_book(), [0]), (house_book(), [0, 1]), (Signs(["a", "b", "c", "d"], [], []), [0, 1, 2, 3])):
            for total in totals:
                for saying in (ALWAYS, NEVER):
                    self.assertEqual(follows(signs, [], saying, total), ("yes", {}))

    def test_many_sizes(self):
        signs = Signs(["a", "b", "c", "d"], [], [])
        word, papers = follows(signs, [], ALWAYS, 16)
        self.assertEqual((word, len(papers)), ("yes", 256))
        self.assertEqual(set(papers.values()), {("broken", 0)})
        self.assertEqual(follows(signs, [], ("not", ("some", "x", "d", ("not", ("=", "x", "x")))), 16)[0], "yes")

    def test_against_a_walk(self):
        found = []
        for signs, totals in ((small_book(), (0, 1, 2)), (house_book(), (1, 2, 3)), (REDS, (3, 4))):
            sayer = plainly.Sayer(signs, 14)
            for turn in range(25):
                for total in totals:
                    found.append(self.told(signs, sayer.sayings(turn % 4, 3), sayer.saying(3), total))
        self.assertGreater(found.count("yes"), 30)
        self.assertGreater(found.count("no"), 30)

    def test_great_sayings(self):
        # Eighty parts, and twelve deep.
        great = ("and",) + tuple([SOME_RED] * 25 + [("red", ("zero",))])
        deep = SOME_RED
        for turn in range(8):
            deep = ("not", deep)
        signs = Signs(["a"], [("red", ("a",))], [("zero", (), "a")])
        for saying in (great, deep):
            self.assertEqual(self.told(signs, [saying], saying, 2), "yes")
            self.assertEqual(self.told(signs, [saying] * 8, saying, 2), "yes")
            self.assertEqual(self.told(signs, [], saying, 2), "no")

    def test_what_is_told_may_be_changed(self):
        told = follows(small_book(), [RED], SOME_RED, 2)
        kept = dict(told[1])
        told[1].clear()
        self.assertEqual(follows(small_book(), [RED], SOME_RED, 2), ("yes", kept))
        world = follows(small_book(), [SOME_RED], RED, 2)[1]
        part = world.part()
        world.part().clear()
        self.assertEqual(follows(small_book(), [SOME_RED], RED, 2)[1].part(), part)

    def test_by_name_of_lists_and_what_is_handed_in_stays(self):
        sayings, saying = lists_throughout([RED]), lists_throughout(SOME_RED)
        told = follows(total=2, saying=saying, sayings=sayings, signs=small_book())
        self.assertEqual((sayings, saying), (lists_throughout([RED]), lists_throughout(SOME_RED)))
        clear_throughout(sayings)
        clear_throughout(saying)
        self.assertEqual(told, follows(small_book(), (RED,), SOME_RED, 2))

    def test_no_saying(self):
        for thing in NO_SAYINGS + anything():
            for total in (0, 2):
                self.refused(NoSaying, lambda: follows(book(), [], thing, total))
                self.refused(NoSaying, lambda: follows(book(), [NEVER], thing, total))


class Basis(Refusing):
    def told(self, signs, sayings, total):
        told = basis(signs, sayings, total)
        self.assertIsInstance(told, list)
        self.assertEqual(told, walked_basis(signs, sayings, total), (sayings, total))
        self.assertEqual(told, sorted(set(told)))
        kept = [sayings[number] for number in told]
        for size in sizes_to(signs, total):
            self.assertEqual(plainly.keeping(signs, size, kept), plainly.keeping(signs, size, sayings))
        for number in told:
            self.assertNotEqual(walked_against(signs, [sayings[other] for other in told if other != number],
                                               sayings[number], total), [])
        return told

    def test_sayings_that_hold_everywhere(self):
        self.assertEqual(self.told(small_book(), [], 2), [])
        self.assertEqual(self.told(small_book(), [ALWAYS], 2), [])
        self.assertEqual(self.told(small_book(), [ALWAYS, RED, ALWAYS, ("not", NEVER)], 2), [1])

    def test_sayings_that_stand_twice(self):
        self.assertEqual(self.told(small_book(), [RED, RED], 2), [0])
        self.assertEqual(self.told(small_book(), [RED, FIXED, FIXED, RED], 2), [0, 1])
        self.assertEqual(self.told(small_book(), [SOME_RED, RED, RED], 2), [1])

    def test_sayings_that_follow_from_others_together(self):
        both = ("and", RED, FIXED)
        self.assertEqual(self.told(small_book(), [RED, FIXED, both], 2), [0, 1])
        self.assertEqual(self.told(small_book(), [both, RED, FIXED], 2), [0])
        self.assertEqual(self.told(small_book(), [RED, both, FIXED], 2), [1])
        self.assertEqual(self.told(small_book(), [RED, NONE_RED, NEVER], 2), [0, 1])
        self.assertEqual(self.told(small_book(), [NEVER, RED, NONE_RED], 2), [0])

    def test_totals(self):
        self.assertEqual(self.told(REDS, [RED, SOME_RED, TWO, THREE], 0), [])
        self.assertEqual(self.told(REDS, [RED, SOME_RED], 1), [0])
        self.assertEqual(self.told(REDS, [RED, SOME_RED, TWO, THREE], 1), [2])
        # To a total of two no world keeps the last one, so that all others follow from it.
        self.assertEqual(self.told(REDS, [RED, SOME_RED, TWO, THREE], 2), [3])
        self.assertEqual(self.told(REDS, [RED, SOME_RED, TWO, THREE], 4), [0, 3])
        self.assertEqual(self.told(REDS, [SOME_RED, RED], 1), [0])
        self.assertEqual(self.told(REDS, [SOME_RED, RED], 2), [1])

    def test_against_a_walk(self):
        found = []
        for signs, totals in ((small_book(), (1, 2)), (house_book(), (2, 3)), (REDS, (3, 4))):
            sayer = plainly.Sayer(signs, 15)
            for turn in range(12):
                for total in totals:
                    found.append(tuple(self.told(signs, sayer.sayings(turn % 6, 3), total)))
        self.assertGreater(len(set(found)), 5)

    def test_what_is_handed_in_and_told_may_be_changed(self):
        handed = lists_throughout([RED, SOME_RED, FIXED])
        told = basis(total=2, sayings=handed, signs=small_book())
        self.assertEqual(handed, lists_throughout([RED, SOME_RED, FIXED]))
        clear_throughout(handed)
        self.assertEqual(told, [0, 2])
        told.clear()
        self.assertEqual(basis(small_book(), (RED, SOME_RED, FIXED), 2), [0, 2])


class Parted(Refusing):
    def told(self, signs, one, other, total):
        walked = walked_parting(signs, one, other, total)
        told = parted(signs, one, other, total)
        if told is None:
            self.assertIsNone(walked, (one, other, total))
            return None
        self.assertIsInstance(told, tuple)
        which, world = told
        self.assertIsInstance(world, World)
        self.assertEqual((which, world.size(), world.part()), walked, (one, other, total))
        self.assertEqual(repr(which), repr(walked[0]))
        self.assertEqual(told_of(world.signs()), told_of(signs))
        return which

    def both(self, signs, one, other, total):
        """Which list is kept, held against what is told of the lists exchanged."""
        which, turned = self.told(signs, one, other, total), self.told(signs, other, one, total)
        self.assertEqual(turned, None if which is None else 1 - which)
        return which

    def test_red_ones(self):
        self.assertEqual(self.both(small_book(), [SOME_RED], [RED], 2), 0)
        self.assertIsNone(self.both(small_book(), [SOME_RED], [RED], 1))
        self.assertEqual(self.both(small_book(), [RED], [], 2), 1)
        self.assertEqual(self.both(small_book(), [RED], [NONE_RED], 2), 1)
        self.assertEqual(self.both(small_book(), [RED], [RED, FIXED], 2), 0)
        self.assertIsNone(self.both(small_book(), [RED, FIXED], [("and", FIXED, RED)], 2))

    def test_of_a_list_and_itself(self):
        for sayings in ([], [RED], [NEVER], [RED, FIXED, SOME_RED]):
            for total in (0, 1, 2):
                self.assertIsNone(self.both(small_book(), sayings, sayings, total))
            self.assertIsNone(self.both(small_book(), sayings, sayings[::-1] + [ALWAYS] + sayings, 2))

    def test_no_size_to_the_total(self):
        self.assertIsNone(parted(small_book(), [], [NEVER], 0))
        self.assertIsNone(parted(house_book(), [], [NEVER], 1))
        self.assertEqual(parted(house_book(), [], [NEVER], 2)[0], 0)

    def test_sizes_ahead_of_worlds(self):
        # The second list's world comes first by its size, though the other's is first in order.
        self.assertEqual(self.both(REDS, [TWO, NONE_RED], [("not", TWO), RED], 2), 1)
        self.assertEqual(self.both(REDS, [THREE], [("not", THREE), TWO], 4), 1)

    def test_against_a_walk(self):
        found = []
        for signs, totals in ((small_book(), (1, 2)), (house_book(), (2, 3)), (REDS, (3, 4))):
            sayer = plainly.Sayer(signs, 16)
            for turn in range(20):
                for total in totals:
                    found.append(self.both(signs, sayer.sayings(turn % 3, 3), sayer.sayings(turn % 4, 3), total))
        self.assertTrue({0, 1, None} <= set(found))

    def test_by_name_of_lists_and_what_is_handed_in_stays(self):
        one, other = lists_throughout([SOME_RED]), lists_throughout([RED])
        which, world = parted(total=2, other=other, one=one, signs=small_book())
        self.assertEqual((one, other), (lists_throughout([SOME_RED]), lists_throughout([RED])))
        clear_throughout(one)
        clear_throughout(other)
        wanted = walked_parting(small_book(), [SOME_RED], [RED], 2)
        self.assertEqual((which, world.size(), world.part()), wanted)
        world.part().clear()
        which, world = parted(small_book(), (SOME_RED,), (RED,), 2)
        self.assertEqual((which, world.size(), world.part()), wanted)


class Refused(Refusing):
    def test_no_total(self):
        for thing in anything_but(0, 1, 2) + [-1, 17, 10 ** 59, -10 ** 59, True, "2", [2], None]:
            for sayings in ([], [ALWAYS], [NEVER], [RED, SOME_RED]):
                for asked in self.each_asked(small_book(), sayings, thing):
                    self.refused(NoSize, asked)
        for total in (0, 16):
            for asked in self.each_asked(Signs(["a"], [], []), [ALWAYS], total):
                asked()

    def test_no_sayings(self):
        for thing in anything_but([], ()) + [("and",), "(and)", {("and",): 1}, ("rain",)]:
            for total in (0, 2):
                for asked in self.each_asked(book(), thing, total):
                    self.refused(NoSaying, asked)
        for thing in NO_SAYINGS + anything():
            for sayings in ([thing], [NEVER, thing], (thing, ALWAYS)):
                for total in (0, 2):
                    for asked in self.each_asked(book(), sayings, total):
                        self.refused(NoSaying, asked)

    def test_sizes_that_are_come_to(self):
        # Of one to three things there are 2, 16 and 512 fillings, of four 65536.
        less = ORDERED[0]
        for total in (4, 5, 16):
            self.refused(TooMany, lambda: follows(ORDER, [], ALWAYS, total), 65536)
            self.refused(TooMany, lambda: follows(ORDER, ORDERED, less, total), 65536)
            self.refused(TooMany, lambda: basis(ORDER, [ALWAYS], total), 65536)
            self.refused(TooMany, lambda: basis(ORDER, [less, ALWAYS], total), 65536)
            self.refused(TooMany, lambda: parted(ORDER, [], [], total), 65536)
            self.refused(TooMany, lambda: parted(ORDER, ORDERED, ORDERED, total), 65536)
            # Behind the world that is told no size is come to.
            self.assertEqual(follows(ORDER, [], less, total)[1].size(), [1])
            self.assertEqual(follows(ORDER, ORDERED, ("not", TWO), total)[1].size(), [2])
            self.assertEqual(follows(ORDER, [], ("not", THREE), total)[1].size(), [3])
            self.assertEqual(basis(ORDER, [], total), [])
            self.assertEqual(basis(ORDER, [less, TWO], total), [0, 1])
            self.assertEqual(parted(ORDER, [TWO], [], total)[0], 1)
            self.assertEqual(parted(ORDER, [TWO], [THREE], total)[1].size(), [2])
        self.assertEqual(follows(ORDER, [], ALWAYS, 3)[0], "yes")
        self.assertEqual(basis(ORDER, [ALWAYS], 3), [])
        self.assertIsNone(parted(ORDER, [], [], 3))

    def test_sizes_of_two_kinds(self):
        # [2, 3] and [3, 2] have 4096 fillings, [2, 4] is the first size with more.
        self.refused(TooMany, lambda: follows(PAIR, [NEVER], ALWAYS, 6), 2 ** 16)
        self.refused(TooMany, lambda: basis(PAIR, [ALWAYS], 16), 2 ** 16)
        self.refused(TooMany, lambda: parted(PAIR, [NEVER], [NEVER], 6), 2 ** 16)
        self.assertEqual(len(follows(PAIR, [NEVER], ALWAYS, 5)[1]), 10)
        self.refused(TooMany, lambda: basis(PAIR, [ALWAYS, NEVER], 6), 2 ** 16)
        self.assertEqual(basis(PAIR, [ALWAYS, NEVER], 5), [1])

    def test_a_following_of_a_basis_that_comes_to_more(self):
        # The last one does not follow, and a small world shows it; the first one does, so that all sizes are come to.
        self.refused(TooMany, lambda: basis(ORDER, [("or", ORDERED[0], ALWAYS), ORDERED[0]], 4), 65536)
        self.assertEqual(basis(ORDER, [("or", ORDERED[0], ALWAYS), ORDERED[0]], 3), [1])


if __name__ == "__main__":
    unittest.main()
