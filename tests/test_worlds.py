import itertools
import unittest

from fewthings.errors import FewError, NoPart, NoSize, NoWorld
from fewthings.signs import Signs
from fewthings.worlds import World, cells, values
from tests import plainly
from tests.things import anything, anything_but, book, house_book, small_book, told_of

# A world of the small book: of two things the second is red, and each is next to the other.
PART = {("red", (0,)): 0, ("red", (1,)): 1, ("next", (0,)): 1, ("next", (1,)): 0}

# What is a size of no book with two kinds.
NO_SIZES = [
    [], [1], [1, 2, 3], (1,), (1, 2, 3), [0, 1], [1, 0], [5, 1], [1, 5], [-1, 1], [1, -4], [4, 10 ** 59], [True, 1],
    [1, True], [2, False], ["1", 1], [1, "2"], ["1", "2"], [None, 1], [1, [2]], [[1], [2]], [[1, 2]], [(), ()], "12",
    "1 2", "", b"\x01\x02", {1: 2}, {0: 1, 1: 2}, {"a": 1, "b": 2}, {1, 2}, range(1, 3), iter([1, 2]), None, 2, 12, True,
]

# What is no cell of the book at the size [2, 3].
NO_CELLS = [
    ("rain", (0,)), ("rain",), ("rain", ()) * 2, ("rain", (), 0), ("rain", None), ("rain", 0), ("rain", ""), "rain",
    ("red", ()), ("red", (2,)), ("red", (-1,)), ("red", (True,)), ("red", (False,)), ("red", 0), ("red", ("0",)),
    ("red", (None,)), ("red", ((0,),)), ("red", (0, 0)), ("red", "0"), ("red", {0: 0}), ("red", {0}), ("red", range(1)),
    ("red", b"\x00"), ("red", 0, 0), ("red", (10 ** 59,)), ("red", ([],)), ("red", ({},)),
    ("on", (0,)), ("on", (0, 3)), ("on", (2, 0)), ("on", (0, -1)), ("on", (0, 0, 0)), ("on", (0, True)),
    ("on", (True, 0)), ("on", 0, 0), ("b", (3, 0)), ("of", (2, 0)), ("of", (0, 3)), ("of", (1,)), ("of", (1, 1, 1)),
    ("zero", (0,)), ("zero", ((),)), ("next", ()), ("next", (2,)), ("a", ()), ("a", (0,)), ("snow", ()),
    ("Rain", ()), ("rain ", ()), ("=", (0, 0)), ("and", ()), ("not", ()), ("", ()), (None, ()), (0, ()), (b"rain", ()),
    ((), "rain"), (("rain", ()),), [["rain", ()]], (["rain"], ()), ({}, ()), (), [], None, 0, True, {"rain": ()},
]


class Sizes(unittest.TestCase):
    def refused(self, size):
        for asked in (lambda: cells(book(), size), lambda: values(book(), size, ("rain", ()))):
            with self.assertRaises(NoSize, msg=repr(size)[:60]) as taken:
                asked()
            self.assertIsInstance(taken.exception, FewError)
        with self.assertRaises((NoSize, NoWorld), msg=repr(size)[:60]):
            World(book(), size, {})

    def test_every_size(self):
        for size in itertools.product(range(1, 5), repeat=2):
            self.assertEqual(cells(book(), size), cells(book(), list(size)))
        for size in itertools.product(range(-1, 7), repeat=2):
            if not set(size) <= {1, 2, 3, 4}:
                self.refused(size)
                self.refused(list(size))

    def test_one_number_for_each_kind(self):
        for many in (1, 2, 3, 4):
            signs = Signs(["a", "b", "c", "d"][:many], [], [])
            for length in range(7):
                if length == many:
                    self.assertEqual(cells(signs, [1] * length), [])
                else:
                    self.assertRaises(NoSize, cells, signs, [1] * length)

    def test_what_is_none(self):
        for size in NO_SIZES:
            self.refused(size)

    def test_of_anything(self):
        for thing in anything():
            self.refused(thing)
        for thing in anything_but(1, 2):
            self.refused([thing, 1])
            self.refused((1, thing))


class Cells(unittest.TestCase):
    def test_in_order(self):
        self.assertEqual(cells(book(), [2, 3]), [
            ("rain", ()), ("red", (0,)), ("red", (1,)),
            ("on", (0, 0)), ("on", (0, 1)), ("on", (0, 2)), ("on", (1, 0)), ("on", (1, 1)), ("on", (1, 2)),
            ("b", (0, 0)), ("b", (0, 1)), ("b", (0, 2)), ("b", (1, 0)), ("b", (1, 1)), ("b", (1, 2)),
            ("b", (2, 0)), ("b", (2, 1)), ("b", (2, 2)),
            ("zero", ()), ("next", (0,)), ("next", (1,)),
            ("of", (0, 0)), ("of", (0, 1)), ("of", (0, 2)), ("of", (1, 0)), ("of", (1, 1)), ("of", (1, 2)), ("one", ()),
        ])

    def test_as_the_book_stands(self):
        signs = Signs(["b", "a"], [("z", ("a",)), ("y", ())], [("x", ("a", "b"), "a"), ("w", (), "b")])
        self.assertEqual(cells(signs, [2, 1]), [("z", (0,)), ("y", ()), ("x", (0, 0)), ("x", (0, 1)), ("w", ())])
        self.assertEqual(cells(signs, [1, 2]), [("z", (0,)), ("z", (1,)), ("y", ()), ("x", (0, 0)), ("x", (1, 0)),
                                                ("w", ())])
        self.assertEqual(cells(Signs(["a"], [], []), [4]), [])

    def test_against_a_plain_list(self):
        for signs in (book(), Signs(["a", "b"], [("t", ("b", "a"))], [("f", ("b", "b"), "a")])):
            for size in itertools.product(range(1, 5), repeat=2):
                many = plainly.many_values(signs, size)
                self.assertEqual(cells(signs, size), list(many))
                for cell in many:
                    self.assertEqual(values(signs, size, cell), list(range(many[cell])))

    def test_values(self):
        for cell, told in ((("rain", ()), [0, 1]), (("on", (1, 2)), [0, 1]), (("zero", ()), [0, 1]),
                           (("next", (1,)), [0, 1]), (("of", (1, 2)), [0, 1, 2]), (("one", ()), [0, 1, 2])):
            self.assertEqual(values(book(), [2, 3], cell), told)
        self.assertEqual(values(book(), [1, 4], ("zero", ())), [0])
        self.assertEqual(values(book(), [1, 4], ("one", ())), [0, 1, 2, 3])
        self.assertEqual(values(book(), [1, 1], ("rain", ())), [0, 1])

    def test_what_is_no_cell(self):
        for cell in NO_CELLS:
            with self.assertRaises(NoPart, msg=repr(cell)):
                values(book(), [2, 3], cell)

    def test_of_anything(self):
        for thing in anything():
            for cell in (thing, (thing, ()), ("red", thing), ("on", (0, thing)), ["on", [thing, 0]]):
                if cell in (("on", (0, 0)), ("on", (0, 1)), ("on", (0, 2)), ["on", [0, 0]], ["on", [1, 0]]) \
                        and repr(thing) in ("0", "1", "2"):
                    continue
                with self.assertRaises(NoPart, msg=repr(cell)[:60]):
                    values(book(), [2, 3], cell)

    def test_lists_for_tuples(self):
        for cell in (["of", [1, 2]], ("of", [1, 2]), ["of", (1, 2)]):
            self.assertEqual(values(book(), (2, 3), cell), [0, 1, 2])
            self.assertEqual(cell[0], "of")
        row = [1, 2]
        values(book(), [2, 3], ["of", row])
        self.assertEqual(row, [1, 2])

    def test_by_name(self):
        self.assertEqual(cells(size=[1], signs=Signs(["a"], [("red", ())], [])), [("red", ())])
        self.assertEqual(values(cell=("one", ()), size=[1, 3], signs=book()), [0, 1, 2])

    def test_what_is_told_may_be_changed(self):
        size = [2, 3]
        first = cells(book(), size)
        told = values(book(), size, ("one", ()))
        self.assertEqual(size, [2, 3])
        first.clear()
        told.append(9)
        self.assertEqual(len(cells(book(), size)), 28)
        self.assertEqual(values(book(), size, ("one", ())), [0, 1, 2])


class Worlds(unittest.TestCase):
    def refused(self, signs, size, part):
        with self.assertRaises(NoWorld, msg=repr(part)[:80]) as taken:
            World(signs, size, part)
        self.assertIsInstance(taken.exception, FewError)

    def test_what_it_tells(self):
        signs = small_book()
        made = World(signs, [2], PART)
        self.assertEqual(told_of(made.signs()), told_of(signs))
        self.assertEqual(made.size(), [2])
        self.assertIsInstance(made.size(), list)
        self.assertEqual(made.part(), PART)
        for cell in PART:
            self.assertEqual(made.value(cell), PART[cell])
            self.assertEqual(made.value([cell[0], list(cell[1])]), PART[cell])
            self.assertEqual(made.value(cell=cell), PART[cell])

    def test_every_world(self):
        for signs, size in ((small_book(), [2]), (small_book(), [3]), (house_book(), [2, 2]), (book(), [1, 1])):
            for filling in plainly.fillings_in_order(signs, size):
                made = World(signs, size, filling)
                self.assertEqual(made.part(), filling)
                self.assertEqual([made.value(cell) for cell in filling], list(filling.values()))

    def test_cells_of_one_value(self):
        signs = house_book()
        full = {("near", (0, 0)): 1, ("near", (1, 0)): 0, ("home", (0,)): 0, ("home", (1,)): 0, ("king", ()): 1}
        for left_out in ([], [("home", (0,))], [("home", (1,))], [("home", (0,)), ("home", (1,))]):
            part = {cell: full[cell] for cell in full if cell not in left_out}
            made = World(signs, [2, 1], part)
            self.assertEqual(made.part(), full)
            self.assertEqual(list(made.part()), cells(signs, [2, 1]))
            self.assertEqual(made.value(("home", (1,))), 0)
        self.assertEqual(World(Signs(["a"], [], [("f", ("a", "a"), "a")]), [1], {}).part(), {("f", (0, 0)): 0})
        self.assertEqual(World(Signs(["a"], [], []), [3], {}).part(), {})

    def test_an_open_cell(self):
        for cell in PART:
            self.refused(small_book(), [2], {other: PART[other] for other in PART if other != cell})
        self.refused(small_book(), [2], {})
        self.refused(Signs(["a"], [("rain", ())], []), [1], {})
        self.refused(Signs(["a"], [], [("zero", (), "a")]), [2], {})

    def test_a_cell_that_is_none(self):
        full = dict.fromkeys(cells(book(), [2, 3]), 0)
        self.assertEqual(World(book(), [2, 3], full).part(), full)
        for cell in NO_CELLS:
            try:
                hash(cell)
            except TypeError:
                continue
            # A cell with True in the place of 1 is found in the dict as that one with 1, if it stands there.
            part = {other: 0 for other in full if other != cell}
            part[cell] = 0
            self.refused(book(), [2, 3], part)

    def test_a_value_that_is_none(self):
        full = dict.fromkeys(cells(book(), [2, 3]), 0)
        for cell in full:
            many = len(values(book(), [2, 3], cell))
            for value in (many, many + 1, -1, 10 ** 59, True, False, None, "0", "", (0,), [0], {}, Ellipsis):
                self.refused(book(), [2, 3], {**full, cell: value})
            self.assertEqual(World(book(), [2, 3], {**full, cell: many - 1}).value(cell), many - 1)
        self.refused(house_book(), [1, 1], {("near", (0, 0)): 0, ("king", ()): 1})

    def test_true_for_one(self):
        signs = small_book()
        for cell in (("red", (1,)), ("next", (0,))):
            self.refused(signs, [2], {**PART, cell: True})
        self.refused(signs, [2], {**PART, ("red", (0,)): False})
        part = {cell: PART[cell] for cell in PART if cell != ("red", (1,))}
        self.refused(signs, [2], {**part, ("red", (True,)): 1})

    def test_of_anything(self):
        for thing in anything():
            self.refused(small_book(), [2], thing)
        for thing in anything_but(0, 1):
            self.refused(small_book(), [2], {**PART, ("red", (0,)): thing})
        for thing in anything():
            for cell in (thing, ("red", thing), (thing, (0,)), ("red", (0, thing))):
                try:
                    part = {**PART, cell: 0}
                except TypeError:
                    continue
                self.refused(small_book(), [2], part)
        for thing in (list(PART.items()), list(PART), tuple(PART.items()), [PART], PART.items(), list(PART.values())):
            self.refused(small_book(), [2], thing)

    def test_a_part_of_another_size(self):
        self.refused(small_book(), [1], PART)
        self.refused(small_book(), [3], PART)
        self.assertRaises((NoSize, NoWorld), World, small_book(), [2, 2], PART)

    def test_no_cell_asked(self):
        made = World(book(), [2, 3], dict.fromkeys(cells(book(), [2, 3]), 0))
        for cell in NO_CELLS + anything():
            with self.assertRaises(NoPart, msg=repr(cell)[:60]):
                made.value(cell)
        for thing in anything_but(0, 1, 2):
            for cell in (("on", (0, thing)), ["on", [thing, 0]], (thing, ()), ("rain", thing)):
                if repr(cell) not in ("('rain', [])", "('rain', ())"):
                    with self.assertRaises(NoPart, msg=repr(cell)[:60]):
                        made.value(cell)

    def test_by_name(self):
        self.assertEqual(World(part=PART, size=(2,), signs=small_book()).part(), PART)

    def test_what_was_handed_in_may_be_changed(self):
        size, part = [2], dict(PART)
        made = World(small_book(), size, part)
        self.assertEqual((size, part), ([2], PART))
        size.append(3)
        part[("red", (0,))] = 1
        part.pop(("next", (1,)))
        self.assertEqual((made.size(), made.part()), ([2], PART))

    def test_what_is_told_may_be_changed(self):
        made = World(small_book(), [2], PART)
        told, again = made.part(), made.part()
        told.clear()
        made.size().clear()
        self.assertEqual(again, PART)
        again[("red", (0,))] = 1
        self.assertEqual((made.size(), made.part(), made.value(("red", (0,)))), ([2], PART, 0))

    def test_two_by_turns(self):
        one = World(small_book(), [2], PART)
        other = World(small_book(), [2], {**PART, ("red", (0,)): 1})
        for turn in range(2):
            self.assertEqual((one.value(("red", (0,))), other.value(("red", (0,)))), (0, 1))
            self.refused(small_book(), [2], {})


if __name__ == "__main__":
    unittest.main()
