import itertools
import unittest

from fewthings.bounds import can
from fewthings.errors import FewError, NoPart, NoSaying, NoSize, TooMany
from fewthings.papers import paper
from fewthings.reader import is_paper
from fewthings.seeking import first_world
from fewthings.signs import Signs
from fewthings.sizes import fillings
from fewthings.worlds import cells
from tests import plainly
from tests.test_sayings import NO_SAYINGS
from tests.test_seeking import JUST, MORE
from tests.test_worlds import NO_CELLS, NO_SIZES
from tests.things import anything, anything_but, book, clear_throughout, house_book, lists_throughout, small_book, \
    tuples_throughout

NONE_RED = ("all", "x", "a", ("not", ("red", "x")))
SOME_RED = ("some", "x", "a", ("red", "x"))
RED_AND_NOT = [NONE_RED, SOME_RED]
# Over every part "no", so that its number alone shuts whatever case it stands for.
NEVER = [("or",)]
SHUT = ("broken", 0)
# Of two things: where the first is red the first saying is broken, else the second hangs on the other one.
RIGHT = ("cell", ("red", (0,)), (("cell", ("red", (1,)), (("broken", 1), ("broken", 0))), ("broken", 0)))
# Signs of each sort between two kinds.
PAIR = Signs(["a", "b"], [("on", ("a", "b"))],
             [("first", (), "a"), ("of", ("b",), "a"), ("next", ("a",), "a"), ("home", ("a",), "b")])
OTHERS = (0, 1, 2, -1, True, False, None, 10 ** 59, "", "broken", "cell", "like", "far", "red", (), ("broken", 0),
          ("broken", 1), ("broken", True), ("like", 0), ("like", 1), ("far",), ("red", (0,)), ("red", (1,)),
          ("next", (0,)), (1,), (True,))


def both(signs, size, sayings, part, thing):
    """What the program and the plain reading of the document say of a paper."""
    return (is_paper(signs, sayings, size, part, thing), plainly.shuts(signs, size, sayings, part, thing))


class Told(unittest.TestCase):
    def against_a_walk(self, signs, size, sayings, part):
        walked = plainly.keeping(signs, size, sayings, part)
        told = paper(signs, sayings, size, part)
        self.assertEqual(told is None, bool(walked), (sayings, part))
        if told is not None:
            self.assertEqual(both(signs, size, sayings, part, told), (True, True))
            self.assertEqual(repr(told), repr(tuples_throughout(told)))
            self.assertTrue(is_paper(signs, sayings, size, part, lists_throughout(told)))
            self.assertLessEqual(plainly.many_broken(told), fillings(signs, size))
        return told is None

    def test_red_and_not(self):
        self.assertEqual(both(small_book(), [2], RED_AND_NOT, {}, paper(small_book(), RED_AND_NOT, [2], {})), (True, True))
        for saying in RED_AND_NOT:
            self.assertIsNone(paper(small_book(), [saying], [2], {}))
        self.assertIsNone(paper(small_book(), [SOME_RED], [1], {}))
        self.assertEqual(paper(small_book(), [SOME_RED], [1], {("red", (0,)): 0}), ("broken", 0))
        self.assertEqual(paper(small_book(), NEVER, [4], {("red", (0,)): 0}), SHUT)

    def test_no_sayings_and_no_cells(self):
        self.assertIsNone(paper(small_book(), [], [2], {}))
        self.assertIsNone(paper(Signs(["a"], [], []), [], [4], {}))
        self.assertEqual(paper(Signs(["a"], [], []), [("and",), ("or",)], [4], {}), ("broken", 1))

    def test_every_part_against_a_walk(self):
        found = []
        for signs, size, turns in ((small_book(), [2], 8), (house_book(), [2, 1], 3), (house_book(), (1, 2), 3),
                                   (small_book(), [1], 8)):
            sayer = plainly.Sayer(signs, 10)
            for turn in range(turns):
                sayings = sayer.sayings(1 + turn % 3, 3)
                for part in plainly.parts_of(signs, size):
                    found.append(self.against_a_walk(signs, size, sayings, part))
        self.assertGreater(found.count(True), 200)
        self.assertGreater(found.count(False), 200)

    def test_greater_sizes_against_a_walk(self):
        found = []
        for signs, size in ((small_book(), [3]), (house_book(), [2, 2]), (house_book(), [3, 1]), (PAIR, [2, 1])):
            sayer = plainly.Sayer(signs, 11)
            filled = list(plainly.fillings_in_order(signs, size))
            for turn in range(12):
                filling = filled[turn * 31 % len(filled)]
                part = {cell: filling[cell] for at, cell in enumerate(filling) if (at + turn) % 4 == 0 and turn % 3}
                found.append(self.against_a_walk(signs, size, sayer.sayings(3, 3), part))
        self.assertIn(True, found)
        self.assertIn(False, found)

    def test_what_cannot_be_a_paper_shows(self):
        for signs, size in ((small_book(), [2]), (house_book(), [2, 2])):
            sayer = plainly.Sayer(signs, 12)
            for turn in range(5):
                sayings = sayer.sayings(2, 3)
                for cell, fine in can(signs, sayings, size, {}).items():
                    for value in range(plainly.many_values(signs, size)[cell]):
                        told = paper(signs, sayings, size, {cell: value})
                        self.assertEqual(told is None, value in fine)
                        if told is not None:
                            self.assertTrue(is_paper(signs, sayings, size, {cell: value}, told))

    def test_a_great_paper(self):
        # Neither of the last sign's cells breaks the saying before all of them are told.
        signs, size = JUST[0]
        sayings = [("some", "x", "a", ("and", ("t", "x"), ("not", ("t", "x"))))]
        told = paper(signs, sayings, size, {})
        self.assertLessEqual(plainly.many_broken(told), 4096)
        self.assertTrue(is_paper(signs, sayings, size, {}, told))
        self.assertTrue(is_paper(signs, sayings, size, {}, lists_throughout(told)))
        for signs, size in JUST[1:]:
            variable = signs.kinds()[0]
            told = paper(signs, [("some", "x", variable, ("not", ("=", "x", "x")))], size, {})
            self.assertEqual(told, SHUT)

    def test_great_papers_of_functions(self):
        signs, size = JUST[1]
        sayings = [("some", "x", "a", ("not", ("=", ("f", ("g",)), ("f", ("g",)))))]
        told = paper(signs, sayings, size, {})
        self.assertLessEqual(plainly.many_broken(told), 4096)
        self.assertTrue(is_paper(signs, sayings, size, {}, told))

    def test_too_many(self):
        for signs, size, many in MORE:
            full = dict.fromkeys(cells(signs, size), 0)
            for sayings, part in itertools.product(([], [("and",)], NEVER), ({}, full)):
                with self.assertRaises(TooMany) as taken:
                    paper(signs, sayings, size, part)
                self.assertEqual(taken.exception.many, many)
                self.assertIsInstance(taken.exception, FewError)

    def test_many_namings_are_not_refused(self):
        signs = Signs(["a", "b", "c"], [("red", ("a",))], [])
        told = paper(signs, RED_AND_NOT, [4, 4, 4], {})
        self.assertTrue(is_paper(signs, RED_AND_NOT, [4, 4, 4], {}, told))

    def test_by_name_of_lists_and_what_is_handed_in_stays(self):
        sayings, size, part = lists_throughout(RED_AND_NOT), [2], {("next", (0,)): 1}
        told = paper(part=part, size=size, sayings=sayings, signs=small_book())
        self.assertEqual((sayings, size, part), (lists_throughout(RED_AND_NOT), [2], {("next", (0,)): 1}))
        handed = lists_throughout(told)
        self.assertIs(is_paper(thing=handed, part=part, size=size, sayings=sayings, signs=small_book()), True)
        self.assertEqual((sayings, size, part), (lists_throughout(RED_AND_NOT), [2], {("next", (0,)): 1}))
        self.assertEqual(handed, lists_throughout(told))
        clear_throughout(sayings)
        clear_throughout(handed)
        size.clear()
        part.clear()
        self.assertEqual(both(small_book(), [2], RED_AND_NOT, {("next", (0,)): 1}, told), (True, True))
        self.assertEqual(paper(small_book(), tuple(RED_AND_NOT), (2,), {("next", (0,)): 1}), told)


class Refused(unittest.TestCase):
    def each(self, sayings, size, part):
        yield lambda: paper(book(), sayings, size, part)
        for thing in (SHUT, None, ("like", 0)):
            yield lambda: is_paper(book(), sayings, size, part, thing)

    def refused(self, error, sayings, size, part):
        for asked in self.each(sayings, size, part):
            with self.assertRaises(error, msg=repr((sayings, size, part))[:90]) as taken:
                asked()
            self.assertIsInstance(taken.exception, FewError)

    def test_no_size(self):
        for thing in NO_SIZES + anything():
            self.refused(NoSize, [], thing, {})
            self.refused(NoSize, NEVER, thing, {})

    def test_no_saying(self):
        for thing in anything_but([], ()) + [("and",), "(and)", {("and",): 1}, ("rain",)]:
            self.refused(NoSaying, thing, [1, 1], {})
        for thing in NO_SAYINGS + anything():
            self.refused(NoSaying, [thing], [1, 1], {})
            self.refused(NoSaying, NEVER + [thing], [1, 1], {})

    def test_no_part(self):
        for thing in anything_but({}):
            self.refused(NoPart, NEVER, [1, 1], thing)
        for cell in NO_CELLS:
            try:
                part = {cell: 0}
            except TypeError:
                continue
            self.refused(NoPart, NEVER, [1, 1], part)
        for thing in anything_but(0, 1):
            self.refused(NoPart, NEVER, [1, 1], {("rain", ()): thing})
        for cell in (("zero", ()), ("next", (0,)), ("of", (0, 0))):
            self.refused(NoPart, [], [1, 1], {cell: 1})


class Taken(unittest.TestCase):
    def test_right_ones(self):
        for thing in (RIGHT, lists_throughout(RIGHT), ["cell", ("red", (0,)), RIGHT[2]],
                      ("cell", ["red", (0,)], list(RIGHT[2])), ("cell", ("red", [0]), RIGHT[2])):
            self.assertIs(is_paper(small_book(), RED_AND_NOT, [2], {}, thing), True)
        self.assertTrue(is_paper(small_book(), RED_AND_NOT, [2], {("red", (0,)): 0}, RIGHT[2][0]))
        self.assertTrue(is_paper(small_book(), RED_AND_NOT, [2], {("red", (1,)): 1}, ("broken", 0)))
        # A case that needs no more may be told further all the same.
        self.assertTrue(is_paper(small_book(), NEVER, [2], {}, ("cell", ("red", (0,)), (SHUT, SHUT))))
        self.assertTrue(is_paper(small_book(), RED_AND_NOT, [2], {("red", (1,)): 1},
                                 ("cell", ("next", (1,)), (("broken", 0), ("broken", 0)))))

    def test_none_where_there_is_a_world(self):
        for thing in (RIGHT, ("broken", 0), ("broken", 1)):
            self.assertIs(is_paper(small_book(), [SOME_RED], [2], {}, thing), False)
            self.assertFalse(is_paper(small_book(), [NONE_RED], [2], {}, thing))
            self.assertFalse(is_paper(small_book(), [], [2], {}, thing))

    def test_each_way_to_spoil_one(self):
        told = [self.spoil(small_book(), [2], RED_AND_NOT, {}, RIGHT),
                self.spoil(small_book(), [2], RED_AND_NOT, {("next", (0,)): 0}, RIGHT),
                self.spoil(small_book(), [2], RED_AND_NOT, {("red", (1,)): 0}, RIGHT)]
        self.assertGreater(min(told), 500)
        alone = [("all", "x", "a", ("=", "x", ("next", "x"))), ("some", "x", "a", ("not", ("=", "x", ("next", "x"))))]
        whole = paper(small_book(), alone, [2], {})
        self.spoil(small_book(), [2], alone, {}, whole)
        self.spoil(small_book(), [2], NEVER, {}, ("cell", ("next", (0,)), (SHUT, SHUT)))

    def spoil(self, signs, size, sayings, part, thing):
        """Holds each spoilt one against the plain reading, and tells how many there were."""
        many = 0
        for spoilt in plainly.spoilt(thing, OTHERS):
            told, wanted = both(signs, size, sayings, part, spoilt)
            self.assertIs(told, wanted, spoilt)
            self.assertIs(is_paper(signs, sayings, size, part, lists_throughout(spoilt)), wanted, spoilt)
            many += 1
        return many

    def test_numbers(self):
        part = {("red", (0,)): 1}
        sayings = [("and",), NONE_RED]
        for number in (0, 2, -1, -2, 3, 10 ** 59, True, False, None, "1", [1], (1,), b"\x01"):
            self.assertIs(is_paper(small_book(), sayings, [2], part, ("broken", number)), False)
        self.assertIs(is_paper(small_book(), sayings, [2], part, ("broken", 1)), True)
        for thing in (("broken",), ("broken", 1, 1), (1, "broken"), ("Broken", 1), "broken 1", ("broken", 1, ()), 1,
                      {"broken": 1}, (("broken", 1),), [["broken", 1]], ("far",), ("like", 0)):
            self.assertIs(is_paper(small_book(), sayings, [2], part, thing), False)

    def test_an_open_saying_is_not_broken(self):
        for part in ({}, {("red", (1,)): 0}, {("next", (0,)): 1}):
            self.assertFalse(is_paper(small_book(), [NONE_RED], [2], part, ("broken", 0)))
        # Whatever the thing is, it is itself; but over this part the saying is open.
        self.assertFalse(is_paper(small_book(), [("not", ("all", "x", "a", ("=", ("next", "x"), ("next", "x"))))], [2], {},
                                  ("broken", 0)))

    def test_cells(self):
        red = ("red", (0,))
        for cell in [("red", (2,)), ("red", (True,)), ("red", (False,)), ("red", ()), ("red", (0, 0)), ("blue", (0,)), "red",
                     ("red",), ("red", 0), ("red", "0"), None, 0, ("a", (0,)), ("red", (-1,)), ("red", (0,), 0)] + anything():
            self.assertFalse(is_paper(small_book(), NEVER, [2], {}, ("cell", cell, (SHUT, SHUT))))
        self.assertTrue(is_paper(small_book(), NEVER, [2], {}, ("cell", red, (SHUT, SHUT))))
        # Told in the part, with just one value (told or not), and put on the way.
        self.assertFalse(is_paper(small_book(), NEVER, [2], {red: 0}, ("cell", red, (SHUT, SHUT))))
        for part in ({}, {("next", (0,)): 0}):
            self.assertFalse(is_paper(small_book(), NEVER, [1], part, ("cell", ("next", (0,)), (SHUT,))))
            self.assertFalse(is_paper(small_book(), NEVER, [1], part, ("cell", ("next", (0,)), ())))
        again = ("cell", red, (SHUT, SHUT))
        self.assertFalse(is_paper(small_book(), NEVER, [2], {}, ("cell", red, (SHUT, again))))
        self.assertFalse(is_paper(small_book(), NEVER, [2], {}, ("cell", red, (again, SHUT))))
        other = ("cell", ("red", (1,)), (SHUT, again))
        self.assertFalse(is_paper(small_book(), NEVER, [2], {}, ("cell", red, (SHUT, other))))
        self.assertTrue(is_paper(small_book(), NEVER, [2], {}, ("cell", ("next", (0,)), (SHUT, ("cell", ("red", (1,)), (
            SHUT, again))))))

    def test_numbers_of_cases(self):
        for cases in ((), (SHUT,), (SHUT, SHUT, SHUT), SHUT, "ab", {0: SHUT, 1: SHUT}, None, 2, {SHUT}, iter([SHUT, SHUT])):
            self.assertFalse(is_paper(small_book(), NEVER, [2], {}, ("cell", ("red", (0,)), cases)))
            self.assertFalse(is_paper(small_book(), NEVER, [2], {}, ("cell", ("next", (0,)), cases)))
        for many in range(6):
            told = is_paper(small_book(), NEVER, [4], {}, ("cell", ("next", (0,)), (SHUT,) * many))
            self.assertEqual(told, many == 4)

    def test_two_cases_exchanged(self):
        cell, (one, other) = RIGHT[1], RIGHT[2]
        self.assertFalse(is_paper(small_book(), RED_AND_NOT, [2], {}, ("cell", cell, (other, one))))

    def test_things_that_are_none(self):
        for thing in anything():
            for part in ({}, {("red", (0,)): 1}):
                self.assertIs(is_paper(small_book(), NEVER, [2], part, thing), False)
            for whole in (("broken", thing), ("like", thing), ("cell", thing, (SHUT, SHUT)), ("cell", ("red", (0,)), thing),
                          ("cell", ("red", (0,)), (SHUT, thing)), ("cell", ("next", (0,)), (SHUT, thing)),
                          ("cell", ("next", (0,)), (SHUT, ("like", thing))), ("cell", (thing, (0,)), (SHUT, SHUT)),
                          ("cell", ("red", thing), (SHUT, SHUT)), ("cell", ("red", (thing,)), (SHUT, SHUT)),
                          (thing, 0), (thing, ("red", (0,)), (SHUT, SHUT)), (thing,), ("cell", ("red", (0,)), thing, thing)):
                if repr(thing) in ("0", "1") and whole[0] in ("broken", "cell"):
                    continue
                self.assertIs(is_paper(small_book(), NEVER, [2], {}, whole), False, repr(whole)[:90])
        own = ["cell", ("red", (0,)), [SHUT]]
        own[2].append(own)
        self.assertIs(is_paper(small_book(), NEVER, [2], {}, own), False)
        deep = SHUT
        for turn in range(100000):
            deep = ["cell", ("red", (turn % 2,)), [SHUT, deep]]
        self.assertIs(is_paper(small_book(), NEVER, [2], {}, deep), False)

    def test_no_size_is_too_great(self):
        for signs, size, many in MORE:
            full = dict.fromkeys(cells(signs, size), 0)
            for part in ({}, full):
                self.assertIs(is_paper(signs, NEVER, size, part, SHUT), True)
                self.assertIs(is_paper(signs, [], size, part, SHUT), False)
        signs, size, many = MORE[-1]
        thing = SHUT
        for cell in cells(signs, size)[:39]:
            thing = ("cell", cell, (SHUT, SHUT, thing, SHUT))
        self.assertIs(is_paper(signs, NEVER, size, {}, thing), True)
        self.assertIs(is_paper(signs, [("and",)] + NEVER, size, {}, thing), False)

    def test_the_like_of_a_great_size(self):
        signs = Signs(["a", "b", "c", "d"], [], [("first", (), "d")])
        for case in (("like", 0), ("like", 1), ("like", 2)):
            self.assertTrue(is_paper(signs, NEVER, [4] * 4, {}, ("cell", ("first", ()), (SHUT, SHUT, SHUT, case))))


class Like(unittest.TestCase):
    def cases(self, cell, many, part, size):
        """Which (u, v) may stand, all other cases shut."""
        fine = []
        for lesser, value in itertools.product(range(-1, many + 1), range(many)):
            cases = tuple([("like", lesser) if at == value else SHUT for at in range(many)])
            told = both(PAIR, size, NEVER, part, ("cell", cell, cases))
            self.assertIs(told[0], told[1], (cell, part, lesser, value))
            self.assertIs(is_paper(PAIR, NEVER, size, part, ["cell", list(cell), lists_throughout(cases)]), told[1])
            if told[0]:
                fine.append((lesser, value))
        return fine

    def test_below(self):
        self.assertEqual(self.cases(("first", ()), 3, {}, [3, 1]), [(0, 1), (0, 2), (1, 2)])
        self.assertEqual(self.cases(("first", ()), 1, {}, [1, 1]), [])

    def test_no_cell_of_a_tie(self):
        self.assertEqual(self.cases(("on", (0, 0)), 2, {}, [2, 2]), [])

    def test_things_in_rows_that_are_told(self):
        first = ("first", ())
        self.assertEqual(self.cases(first, 3, {("on", (1, 0)): 0}, [3, 2]), [(0, 2)])
        self.assertEqual(self.cases(first, 3, {("on", (0, 1)): 1}, [3, 2]), [(1, 2)])
        self.assertEqual(self.cases(first, 3, {("home", (2,)): 1}, [3, 2]), [(0, 1)])
        self.assertEqual(self.cases(first, 3, {("on", (2, 1)): 1, ("home", (0,)): 0}, [3, 2]), [])

    def test_things_of_another_kind(self):
        # The row's thing is a b, the cell's values are things a; and the other way about.
        self.assertEqual(self.cases(("first", ()), 3, {("of", (1,)): 0}, [3, 2]), [(1, 2)])
        self.assertEqual(self.cases(("home", (0,)), 3, {("first", ()): 1}, [3, 3]), [(0, 1), (0, 2), (1, 2)])
        self.assertEqual(self.cases(("home", (0,)), 3, {("next", (1,)): 2}, [3, 3]), [(0, 1), (0, 2), (1, 2)])
        self.assertEqual(self.cases(("home", (0,)), 3, {("on", (2, 1)): 0}, [3, 3]), [(0, 2)])

    def test_things_that_are_told_of_functions(self):
        first = ("first", ())
        self.assertEqual(self.cases(first, 3, {("of", (0,)): 1}, [3, 2]), [(0, 2)])
        self.assertEqual(self.cases(first, 3, {("next", (0,)): 1}, [3, 2]), [])
        self.assertEqual(self.cases(first, 3, {("next", (1,)): 1}, [3, 2]), [(0, 2)])
        self.assertEqual(self.cases(("home", (0,)), 3, {("home", (1,)): 1}, [2, 3]), [(0, 2)])
        # What a tie tells is no thing.
        self.assertEqual(self.cases(first, 3, {("on", (0, 0)): 1}, [3, 2]), [(1, 2)])

    def test_things_in_the_cells_own_row(self):
        for thing, fine in ((0, [(1, 2)]), (1, [(0, 2)]), (2, [(0, 1)])):
            self.assertEqual(self.cases(("next", (thing,)), 3, {}, [3, 2]), fine)
            self.assertEqual(self.cases(("home", (thing,)), 3, {}, [3, 3]), [(0, 1), (0, 2), (1, 2)])

    def test_what_was_put_on_the_way(self):
        for value, lesser in itertools.product(range(3), range(3)):
            for at in range(3):
                inner = tuple([("like", lesser) if place == at else SHUT for place in range(3)])
                cases = [SHUT] * 3
                cases[value] = ("cell", ("of", (0,)), inner)
                told = both(PAIR, [3, 1], NEVER, {}, ("cell", ("first", ()), tuple(cases)))
                fine = lesser < at and value not in (lesser, at)
                self.assertEqual(told, (fine, fine))

    def test_a_cell_of_one_value(self):
        # With one b each home is that one: where it is told the row's thing is met, where it is not it is not.
        self.assertEqual(self.cases(("first", ()), 3, {}, [3, 1]), [(0, 1), (0, 2), (1, 2)])
        self.assertEqual(self.cases(("first", ()), 3, {("home", (1,)): 0}, [3, 1]), [(0, 2)])
        self.assertEqual(self.cases(("home", (0,)), 2, {("first", ()): 0}, [1, 2]), [(0, 1)])
        self.assertEqual(self.cases(("home", (0,)), 2, {("of", (1,)): 0}, [1, 2]), [])
        self.assertEqual(self.cases(("home", (0,)), 2, {}, [1, 2]), [(0, 1)])

    def test_a_like_by_itself_is_none(self):
        for thing in (("like", 0), ["like", 0], ("like",), ("like", 0, 0)):
            self.assertIs(is_paper(PAIR, NEVER, [3, 1], {}, thing), False)
            cases = (SHUT, thing, SHUT)
            self.assertIs(is_paper(PAIR, NEVER, [3, 1], {}, ("cell", ("first", ()), cases)), len(thing) == 2)

    def test_no_other_word(self):
        sayings = [("and",)] + NEVER
        for word in ("like", "broken", "cell", "far", "", "Like", "likes", "same", None, 0, b"like", ["like"]):
            cases = (("broken", 1), (word, 0), ("broken", 1))
            told = is_paper(PAIR, sayings, [3, 1], {}, ("cell", ("first", ()), cases))
            self.assertIs(told, word == "like", word)

    def test_numbers_that_are_none(self):
        for number in (True, False, None, "0", (0,), [0], -1, 10 ** 59, -10 ** 59, b"\x00"):
            cases = (SHUT, SHUT, ("like", number))
            self.assertIs(is_paper(PAIR, NEVER, [3, 1], {}, ("cell", ("first", ()), cases)), False)

    def test_like_the_like_of_another(self):
        cases = (SHUT, ("like", 0), ("like", 1))
        self.assertTrue(is_paper(PAIR, NEVER, [3, 1], {}, ("cell", ("first", ()), cases)))
        self.assertFalse(is_paper(PAIR, NEVER, [3, 1], {}, ("cell", ("first", ()), (None,) + cases[1:])))

    def test_every_part_and_cell(self):
        for size in ([2, 1], [1, 2]):
            many = plainly.many_values(PAIR, size)
            for part in list(plainly.parts_of(PAIR, size))[::20]:
                for cell in many:
                    self.cases(cell, many[cell], part, size)

    def test_of_what_is_shut_there_is_no_world(self):
        found = 0
        sayer = plainly.Sayer(PAIR, 13)
        for turn in range(60):
            sayings = sayer.sayings(2, 2)
            thing = self.with_likes([2, 2], sayings, {}, plainly.many_values(PAIR, [2, 2]))
            if thing is not None:
                found += 1
                self.assertEqual(both(PAIR, [2, 2], sayings, {}, thing), (True, True))
                self.assertIsNone(first_world(PAIR, sayings, [2, 2]))
        self.assertGreater(found, 5)

    def with_likes(self, size, sayings, part, many):
        """A paper with as many ("like", u) as there can be, or None."""
        told = plainly.told_by(PAIR, size, part)
        read = [plainly.tells(PAIR, size, told, saying) for saying in sayings]
        if False in read:
            return ("broken", read.index(False))
        still_open = [cell for cell in reversed(list(many)) if cell not in told]
        if not still_open:
            return None
        cases = []
        for value in range(many[still_open[0]]):
            fine = [lesser for lesser in range(value) if plainly.can_be_like(PAIR, part, still_open[0], lesser, value)]
            case = ("like", fine[0]) if fine else self.with_likes(size, sayings, {**part, still_open[0]: value}, many)
            if case is None:
                return None
            cases.append(case)
        return ("cell", still_open[0], tuple(cases))


if __name__ == "__main__":
    unittest.main()
