import itertools
import unittest

from fewthings.errors import FewError, NoSize
from fewthings.signs import Signs
from fewthings.sizes import fillings, sizes_to
from tests import plainly
from tests.test_worlds import NO_SIZES
from tests.things import anything, anything_but, book, house_book, small_book


def book_of(many):
    return Signs(["a", "b", "c", "d"][:many], [], [])


class Fillings(unittest.TestCase):
    def test_none_one_and_many_cells(self):
        self.assertEqual(fillings(book_of(1), [4]), 1)
        self.assertEqual(fillings(book_of(4), [4, 1, 2, 3]), 1)
        self.assertEqual(fillings(Signs(["a"], [("rain", ())], []), [3]), 2)
        self.assertEqual(fillings(Signs(["a"], [], [("zero", (), "a")]), [3]), 3)
        self.assertEqual(fillings(Signs(["a"], [], [("zero", (), "a")]), [1]), 1)
        self.assertEqual(fillings(small_book(), [3]), 2 ** 3 * 3 ** 3)
        self.assertEqual(fillings(house_book(), [3, 2]), 2 ** 6 * 2 ** 3 * 3)
        self.assertEqual(fillings(book(), [2, 3]), 2 ** (1 + 2 + 6 + 9) * 2 * 2 ** 2 * 3 ** 6 * 3)

    def test_no_number_is_too_great(self):
        signs = Signs(["a"], [], [(name, ("a", "a"), "a") for name in "abcdefgh"])
        self.assertEqual(fillings(signs, [4]), 4 ** 128)
        self.assertEqual(fillings(Signs(["a"], [("on", ("a", "a"))], []), [4]), 65536)

    def test_against_a_plain_walk(self):
        for signs, most in ((small_book(), 3), (house_book(), 2)):
            for size in itertools.product(range(1, most + 1), repeat=len(signs.kinds())):
                self.assertEqual(fillings(signs, size), len(list(plainly.fillings_in_order(signs, size))))

    def test_no_size(self):
        for thing in NO_SIZES + anything():
            with self.assertRaises(NoSize, msg=repr(thing)[:60]) as taken:
                fillings(book(), thing)
            self.assertIsInstance(taken.exception, FewError)

    def test_by_name(self):
        self.assertEqual(fillings(size=(2,), signs=small_book()), 16)


class SizesTo(unittest.TestCase):
    def test_one_kind(self):
        for total in range(17):
            self.assertEqual(sizes_to(book_of(1), total), [[number] for number in range(1, min(total, 4) + 1)])

    def test_two_kinds(self):
        self.assertEqual(sizes_to(book_of(2), 0), [])
        self.assertEqual(sizes_to(book_of(2), 1), [])
        self.assertEqual(sizes_to(book_of(2), 2), [[1, 1]])
        self.assertEqual(sizes_to(book_of(2), 4), [[1, 1], [1, 2], [2, 1], [1, 3], [2, 2], [3, 1]])
        self.assertEqual(sizes_to(book_of(2), 16)[6:],
                         [[1, 4], [2, 3], [3, 2], [4, 1], [2, 4], [3, 3], [4, 2], [3, 4], [4, 3], [4, 4]])

    def test_every_total(self):
        for kinds in (1, 2, 3, 4):
            every = [list(size) for size in itertools.product(range(1, 5), repeat=kinds)]
            for total in range(17):
                told = sizes_to(book_of(kinds), total)
                self.assertEqual(sorted(told), [size for size in every if sum(size) <= total])
                self.assertEqual(told, sorted(told, key=lambda size: [sum(size)] + size))
                self.assertEqual(len(told) > 0, total >= kinds)
        self.assertEqual(len(sizes_to(book_of(4), 16)), 256)

    def test_lists_of_their_own(self):
        told = sizes_to(book_of(2), 5)
        self.assertIsInstance(told, list)
        for size in told:
            self.assertIsInstance(size, list)
            size.clear()
        told.clear()
        self.assertEqual(sizes_to(book_of(2), 3), [[1, 1], [1, 2], [2, 1]])
        told = sizes_to(book_of(2), 3)
        told[0].append(9)
        self.assertEqual(told[1:], [[1, 2], [2, 1]])

    def test_no_total(self):
        for thing in (-1, 17, 18, 10 ** 59, -10 ** 59, True, False, None, "2", "", [2], (2,), {}, {2: 2}):
            with self.assertRaises(NoSize, msg=repr(thing)):
                sizes_to(book_of(2), thing)
        for thing in anything_but(0, 1, 2):
            with self.assertRaises(NoSize, msg=repr(thing)[:60]):
                sizes_to(book_of(1), thing)

    def test_by_name(self):
        self.assertEqual(sizes_to(total=3, signs=book_of(3)), [[1, 1, 1]])


if __name__ == "__main__":
    unittest.main()
