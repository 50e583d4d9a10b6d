import itertools
import unittest

from fewthings.errors import FewError, NoWorld
from fewthings.signs import Signs
from fewthings.worlds import World, cells
from fewthings.worldtexts import read_world, write_world
from tests import plainly
from tests.things import anything, book, house_book, small_book, told_of

# Of two things the second is red, and each is next to the other.
WORLD = World(small_book(), [2], {("red", (0,)): 0, ("red", (1,)): 1, ("next", (0,)): 1, ("next", (1,)): 0})
TEXT = "size 2\nred 0 0\nred 1 1\nnext 0 1\nnext 1 0\n"
HOUSE = "size 1 2\nnear 0 0 1\nnear 0 1 0\nhome 0 1\nking 0\n"


def some_world(signs, size):
    """A world of the size, with values of each sort."""
    many = plainly.many_values(signs, size)
    return World(signs, size, {cell: at * 5 % many[cell] for at, cell in enumerate(many)})


class Written(unittest.TestCase):
    def taken(self, world, text=None):
        written = write_world(world)
        self.assertIsInstance(written, str)
        if text is not None:
            self.assertEqual(written, text)
        read = read_world(world.signs(), written)
        self.assertIsInstance(read, World)
        self.assertEqual((read.size(), read.part()), (world.size(), world.part()))
        self.assertEqual(told_of(read.signs()), told_of(world.signs()))
        return written

    def test_small_ones(self):
        self.taken(WORLD, TEXT)
        self.taken(World(house_book(), [1, 2], {("near", (0, 0)): 1, ("near", (0, 1)): 0, ("home", (0,)): 1}), HOUSE)

    def test_few_cells(self):
        for many in (1, 2, 3, 4):
            signs = Signs(["a", "b", "c", "d"][:many], [], [])
            for size in itertools.product(range(1, 5), repeat=many):
                self.taken(World(signs, size, {}), "size " + " ".join(str(number) for number in size) + "\n")
        signs = Signs(["a"], [("rain", ())], [("zero", (), "a")])
        self.taken(World(signs, [3], {("rain", ()): 1, ("zero", ()): 2}), "size 3\nrain 1\nzero 2\n")
        # A cell of one value is written, too.
        self.taken(World(signs, [1], {("rain", ()): 0}), "size 1\nrain 0\nzero 0\n")

    def test_every_world(self):
        found = []
        for signs, size in ((small_book(), [2]), (house_book(), [2, 2])):
            for filling in plainly.fillings_in_order(signs, size):
                found.append(self.taken(World(signs, size, filling)))
        self.assertEqual(len(set(found)), len(found))

    def test_many_cells(self):
        for size in itertools.product(range(1, 5), repeat=2):
            for signs in (book(), house_book()):
                written = self.taken(some_world(signs, size))
                rows = written.split("\n")
                self.assertEqual(rows[0], f"size {size[0]} {size[1]}")
                self.assertEqual(len(rows), len(cells(signs, size)) + 2)
        # More than two thousand signs, and read all the same.
        signs = Signs(["thing"], [], [("called" + sign * 6, ("thing", "thing"), "thing") for sign in "abcdefgh"])
        self.assertGreater(len(self.taken(some_world(signs, [4]))), 2000)

    def test_signs_called_like_other_things(self):
        signs = Signs(["size"], [("size", ("size",))], [("holds", (), "size")])
        self.taken(World(signs, [2], {("size", (0,)): 1, ("size", (1,)): 0, ("holds", ()): 1}),
                   "size 2\nsize 0 1\nsize 1 0\nholds 1\n")

    def test_by_name(self):
        self.assertEqual(write_world(world=WORLD), TEXT)
        self.assertEqual(read_world(text=TEXT, signs=small_book()).part(), WORLD.part())

    def test_what_is_told_may_be_changed(self):
        read = read_world(small_book(), TEXT)
        read.part().clear()
        read.size().clear()
        self.assertEqual(write_world(read), TEXT)
        self.assertEqual(write_world(read_world(small_book(), TEXT)), TEXT)


class Wrong(unittest.TestCase):
    def refused(self, signs, text):
        with self.assertRaises(NoWorld, msg=repr(text)[:90]) as taken:
            read_world(signs, text)
        self.assertIsInstance(taken.exception, FewError)

    def maybe(self, signs, text, right):
        """A text that is refused, or that is just what the world is written as that is read."""
        if text in right:
            self.assertEqual(write_world(read_world(signs, text)), text)
        else:
            self.refused(signs, text)

    def all_right(self, signs, sizes):
        return {write_world(World(signs, size, filling))
                for size in sizes for filling in plainly.fillings_in_order(signs, size)}

    def test_rows(self):
        for signs, text in ((small_book(), TEXT), (house_book(), HOUSE)):
            rows = text.splitlines(keepends=True)
            for at, row in enumerate(rows):
                self.refused(signs, "".join(rows[:at] + rows[at + 1:]))
                self.refused(signs, "".join(rows[:at + 1] + rows[at:]))
                self.refused(signs, "".join(rows[:at] + ["\n"] + rows[at:]))
                self.refused(signs, "".join(rows[:at]))
                for other in range(len(rows)):
                    rest = rows[:at] + rows[at + 1:]
                    if other != at:
                        self.refused(signs, "".join(rest[:other] + [row] + rest[other:]))
                        self.refused(signs, "".join(rows[:other] + [row] + rows[other + 1:]))
            self.refused(signs, text + "\n")
            self.refused(signs, text + text)
            self.refused(signs, text[:-1])
            self.refused(signs, "\n" + text)
            self.refused(signs, text.replace("\n", "\r\n"))
            self.refused(signs, text.replace("\n", "\r"))

    def test_a_sign_put_in_taken_out_and_another_one(self):
        for signs, text, sizes in ((small_book(), TEXT, [[1], [2]]),
                                   (house_book(), HOUSE, [[1, 1], [1, 2], [2, 1], [2, 2]])):
            right = self.all_right(signs, sizes)
            self.assertIn(text, right)
            for at in range(len(text)):
                self.maybe(signs, text[:at] + text[at + 1:], right)
                for sign in " \n\t0123456789-+.az_\u0660\u00b2\u00a0\r\x0b\x0c\u2028":
                    self.maybe(signs, text[:at] + sign + text[at:], right)
                    self.maybe(signs, text[:at] + sign + text[at + 1:], right)

    def test_figures(self):
        for text in ("size 02\nred 0 0\nred 1 1\nnext 0 1\nnext 1 0\n", "size 2\nred 00 0\nred 1 1\nnext 0 1\nnext 1 0\n",
                     "size 2\nred 0 00\nred 1 1\nnext 0 1\nnext 1 0\n", "size 2\nred 0 0\nred 1 01\nnext 0 1\nnext 1 0\n",
                     "size 2\nred 0 0\nred 1 1\nnext 0 2\nnext 1 0\n", "size 2\nred 0 2\nred 1 1\nnext 0 1\nnext 1 0\n",
                     "size 2\nred 0 0\nred 2 1\nnext 0 1\nnext 1 0\n", "size 2\nred 0 0\nred 1 1\nnext 0 1\nnext 1 -0\n",
                     "size 2\nred 0 0\nred 1 11\nnext 0 1\nnext 1 0\n", "size 2\nred 0 0\nred 1 +1\nnext 0 1\nnext 1 0\n",
                     "size 2\nred 0 0\nred 1 True\nnext 0 1\nnext 1 0\n", "size two\nred 0 0\nred 1 1\nnext 0 1\nnext 1 0\n"):
            self.refused(small_book(), text)
            self.assertEqual(write_world(read_world(small_book(), TEXT)), TEXT)

    def test_no_sizes(self):
        signs = Signs(["a", "b"], [], [])
        self.assertEqual(read_world(signs, "size 4 1\n").size(), [4, 1])
        for text in ("", "\n", "size\n", "size \n", "size 1\n", "size 1 1 1\n", "size 0 1\n", "size 1 5\n", "size -1 1\n",
                     "size 1 1", "size 1  1\n", "size  1 1\n", " size 1 1\n", "size 1 1 \n", "Size 1 1\n", "1 1\n",
                     "size 1 " + "9" * 60 + "\n", "size 1 " + "9" * 1900 + "\n", "size 1,1\n", "size 1 1\nrain 0\n",
                     "size 1 1\n\n", "size\n1 1\n", "size 1\u00a01\n", "sizes 1 1\n", "none", "world 1 1\n"):
            self.refused(signs, text)

    def test_cells_of_one_value(self):
        signs = Signs(["a"], [], [("zero", (), "a")])
        self.assertEqual(read_world(signs, "size 1\nzero 0\n").part(), {("zero", ()): 0})
        for text in ("size 1\n", "size 1\nzero 1\n", "size 1\nzero\n", "size 1\nzero 0\nzero 0\n", "size 1\nzero \n"):
            self.refused(signs, text)

    def test_another_book(self):
        for signs in (house_book(), book(), Signs(["a"], [("red", ("a",))], []), Signs(["a"], [], [])):
            self.refused(signs, TEXT)
        self.refused(Signs(["a"], [], [("next", ("a",), "a"), ("red", ("a",), "a")]), TEXT)
        # Another kind's name is not written, so that the text is right by such a book.
        other = Signs(["b"], [("red", ("b",))], [("next", ("b",), "b")])
        self.assertEqual(read_world(other, TEXT).part(), WORLD.part())

    def test_anything(self):
        for thing in anything():
            self.refused(small_book(), thing)
            self.refused(book(), thing)
        for thing in (TEXT.encode(), [TEXT], (TEXT,), TEXT.split("\n"), {TEXT: TEXT}, bytearray(TEXT.encode())):
            self.refused(small_book(), thing)


if __name__ == "__main__":
    unittest.main()
