import unittest

from fewthings.errors import FewError, NoPart, NoSaying, NoSize
from fewthings.bounds import can, first_with, must
from fewthings.holding import holds
from fewthings.worlds import World
from tests import plainly
from tests.test_sayings import NO_SAYINGS
from tests.test_worlds import NO_CELLS, NO_SIZES
from tests.things import anything, anything_but, book, clear_throughout, house_book, lists_throughout, small_book, \
    told_of

FUNCTIONS = (first_with, can, must)
SOME_RED = [("some", "x", "a", ("red", "x"))]


class Bounds(unittest.TestCase):
    def against_a_walk(self, signs, size, sayings, part):
        walked = plainly.keeping(signs, size, sayings, part)
        told = plainly.told_by(signs, size, part)
        still_open = [cell for cell in plainly.many_values(signs, size) if cell not in told]
        bounds = {cell: sorted({filling[cell] for filling in walked}) for cell in still_open}
        first = first_with(signs, sayings, size, part)
        self.assertEqual(None if first is None else first.part(), walked[0] if walked else None)
        if first is not None:
            self.assertIsInstance(first, World)
            self.assertEqual((first.size(), told_of(first.signs())), (list(size), told_of(signs)))
            self.assertTrue(all(holds(first, saying) for saying in sayings))
        self.assertEqual(can(signs, sayings, size, part), bounds)
        self.assertEqual(must(signs, sayings, size, part),
                         {cell: bounds[cell][0] for cell in bounds if len(bounds[cell]) == 1})
        return len(walked)

    def test_some_red(self):
        red = [("red", (0,)), ("red", (1,))]
        nexts = {("next", (0,)): [0, 1], ("next", (1,)): [0, 1]}
        self.assertEqual(can(small_book(), SOME_RED, [2], {}), {red[0]: [0, 1], red[1]: [0, 1], **nexts})
        self.assertEqual(must(small_book(), SOME_RED, [2], {}), {})
        self.assertEqual(can(small_book(), SOME_RED, [2], {red[0]: 0}), {red[1]: [1], **nexts})
        self.assertEqual(must(small_book(), SOME_RED, [2], {red[0]: 0}), {red[1]: 1})
        self.assertEqual(must(small_book(), SOME_RED, [2], {red[0]: 1}), {})
        self.assertEqual(first_with(small_book(), SOME_RED, [2], {("next", (1,)): 1}).part(),
                         {red[0]: 0, red[1]: 1, ("next", (0,)): 0, ("next", (1,)): 1})
        self.assertEqual(first_with(small_book(), SOME_RED, [2], {red[0]: 1}).part(),
                         {red[0]: 1, red[1]: 0, ("next", (0,)): 0, ("next", (1,)): 0})

    def test_where_there_is_no_world(self):
        none = dict.fromkeys([("red", (0,)), ("red", (1,))], 0)
        self.assertIsNone(first_with(small_book(), SOME_RED, [2], none))
        self.assertEqual(can(small_book(), SOME_RED, [2], none), {("next", (0,)): [], ("next", (1,)): []})
        self.assertEqual(must(small_book(), SOME_RED, [2], none), {})
        told = can(small_book(), [("or",)], [2], {})
        self.assertEqual(told, {cell: [] for cell in plainly.many_values(small_book(), [2])})
        told[("red", (0,))].append(1)
        self.assertEqual(told[("red", (1,))], [])

    def test_open_cells_alone(self):
        self.assertEqual(can(small_book(), [], [1], {}), {("red", (0,)): [0, 1]})
        self.assertEqual(can(small_book(), [], [1], {("next", (0,)): 0}), {("red", (0,)): [0, 1]})
        self.assertEqual(must(small_book(), SOME_RED, [1], {}), {("red", (0,)): 1})
        full = {("red", (0,)): 1, ("next", (0,)): 0}
        self.assertEqual(can(small_book(), SOME_RED, [1], full), {})
        self.assertEqual(must(small_book(), SOME_RED, [1], full), {})
        self.assertEqual(first_with(small_book(), SOME_RED, [1], full).part(), full)
        self.assertIsNone(first_with(small_book(), SOME_RED, [1], {("red", (0,)): 0}))

    def test_every_part_against_a_walk(self):
        found = []
        for signs, size, turns in ((small_book(), [2], 6), (house_book(), [2, 1], 3), (house_book(), (1, 2), 3)):
            sayer = plainly.Sayer(signs, 6)
            for turn in range(turns):
                sayings = sayer.sayings(turn % 3, 3)
                for part in plainly.parts_of(signs, size):
                    found.append(self.against_a_walk(signs, size, sayings, part))
        self.assertIn(0, found)
        self.assertIn(1, found)

    def test_greater_sizes_against_a_walk(self):
        for signs, size in ((small_book(), [3]), (house_book(), [2, 2]), (house_book(), [3, 1])):
            sayer = plainly.Sayer(signs, 7)
            fillings = list(plainly.fillings_in_order(signs, size))
            for turn in range(8):
                filling = fillings[turn * 31 % len(fillings)]
                part = {cell: filling[cell] for at, cell in enumerate(filling) if (at + turn) % 3 == 0}
                self.against_a_walk(signs, size, sayer.sayings(2, 3), part)

    def test_no_part(self):
        for asked in FUNCTIONS:
            for thing in anything_but({}):
                with self.assertRaises(NoPart, msg=repr(thing)[:60]) as taken:
                    asked(book(), [], [1, 1], thing)
                self.assertIsInstance(taken.exception, FewError)
            for cell in NO_CELLS:
                try:
                    part = {cell: 0}
                except TypeError:
                    continue
                # What is no cell of a greater size is none of a lesser one.
                with self.assertRaises(NoPart, msg=repr(cell)):
                    asked(book(), [("or",)], [1, 1], part)
            for thing in anything_but(0, 1):
                with self.assertRaises(NoPart, msg=repr(thing)[:60]):
                    asked(book(), [("or",)], [1, 1], {("rain", ()): thing})
            for cell, value in ((("king", ()), 1), (("home", (0,)), 2), (("near", (0, 0)), 2), (("near", (0, 0)), True)):
                self.assertRaises(NoPart, asked, house_book(), [], [1, 2], {cell: value})

    def test_no_size_and_no_saying(self):
        for asked in FUNCTIONS:
            for thing in NO_SIZES + anything():
                with self.assertRaises(NoSize, msg=repr(thing)[:60]):
                    asked(book(), [], thing, {})
            for thing in anything_but([], ()) + [("and",), {("and",): 1}]:
                with self.assertRaises(NoSaying, msg=repr(thing)[:60]):
                    asked(book(), thing, [1, 1], {})
            for thing in NO_SAYINGS + anything():
                with self.assertRaises(NoSaying, msg=repr(thing)[:60]):
                    asked(book(), [("or",), thing], [1, 1], {})

    def test_by_name_of_lists_and_what_is_handed_in_stays(self):
        sayings, size, part = lists_throughout(SOME_RED), [2], {("red", (0,)): 0}
        told = [asked(part=part, size=size, sayings=sayings, signs=small_book()) for asked in FUNCTIONS]
        self.assertEqual((sayings, size, part), (lists_throughout(SOME_RED), [2], {("red", (0,)): 0}))
        clear_throughout(sayings)
        size.clear()
        part.clear()
        self.assertEqual(told[0].size(), [2])
        self.assertEqual(told[0].part()[("red", (1,))], 1)
        self.assertEqual(told[1], {("red", (1,)): [1], ("next", (0,)): [0, 1], ("next", (1,)): [0, 1]})
        self.assertEqual(told[2], {("red", (1,)): 1})

    def test_what_is_told_may_be_changed(self):
        told = can(small_book(), SOME_RED, [2], {})
        told[("next", (0,))].clear()
        self.assertEqual(told[("next", (1,))], [0, 1])
        told.clear()
        must(small_book(), SOME_RED, [2], {("red", (0,)): 0}).clear()
        first_with(small_book(), SOME_RED, [2], {}).part().clear()
        self.assertEqual(can(small_book(), SOME_RED, [2], {})[("next", (0,))], [0, 1])
        self.assertEqual(must(small_book(), SOME_RED, [2], {("red", (0,)): 0}), {("red", (1,)): 1})


if __name__ == "__main__":
    unittest.main()
