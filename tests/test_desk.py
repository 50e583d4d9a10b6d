import itertools
import unittest

from fewthings.classes import classes
from fewthings.desk import Desk
from fewthings.errors import FewError, NoRow, NoSaying, NoSize, NoWorld, TooMany
from fewthings.following import basis, follows
from fewthings.holding import holds
from fewthings.sayings import write_saying
from fewthings.seeking import first_world, least_world, worlds
from fewthings.signs import Signs
from fewthings.texts import Text, read_text
from fewthings.worlds import World, cells
from fewthings.worldtexts import write_world
from tests import plainly
from tests.test_seeking import MORE, ORDER, ORDERED
from tests.things import anything, house_book, lists_throughout, small_book

RED = ("all", "x", "a", ("red", "x"))
SOME_RED = ("some", "x", "a", ("red", "x"))
APART = ("all", "x", "a", ("not", ("=", "x", ("next", "x"))))
SAID = [SOME_RED, APART, ("and",)]
PAIR = "size 2\nred 0 0\nred 1 1\nnext 0 1\nnext 1 0\n"
WORDS = ("least", "first", "count", "basis")


def desk(signs=None, sayings=()):
    return Desk(Text(signs or small_book(), sayings))


class Told(unittest.TestCase):
    def test_red_ones(self):
        asked = desk(sayings=SAID)
        for row, told in (("least 3", PAIR), ("least 2", PAIR), ("least 1", "none"), ("least 0", "none"), ("first 2", PAIR),
                          ("first 1", "none"), ("count 2", "3 2"), ("count 1", "0 0"), ("holds\n" + PAIR, "yes yes yes"),
                          ("holds\nsize 1\nred 0 0\nnext 0 0\n", "no no yes"), ("follows 2 (and)", "yes"),
                          ("follows 2 (all x a (red x))", "no\n" + PAIR), ("follows 1 (or)", "yes"),
                          ("follows 0 (or)", "yes"), ("basis 2", "0 1"), ("basis 1", "1"), ("basis 0", ""),
                          ("follows 2 (some x a (some y a (not (= x y))))", "yes")):
            self.assertEqual(asked.take(row), told, row)
            self.assertIsInstance(asked.take(row), str)

    def test_no_sayings(self):
        asked = desk()
        self.assertEqual(asked.take("holds\n" + PAIR), "")
        self.assertEqual(asked.take("basis 2"), "")
        self.assertEqual(asked.take("least 1"), "size 1\nred 0 0\nnext 0 0\n")
        self.assertEqual(asked.take("count 2"), "16 10")
        self.assertEqual(asked.take("follows 2 (and)"), "yes")
        self.assertEqual(asked.take("follows 2 (or)"), "no\nsize 1\nred 0 0\nnext 0 0\n")

    def test_no_signs(self):
        asked = desk(Signs(["a", "b"], [], []), [("and",)])
        self.assertEqual(asked.take("least 16"), "size 1 1\n")
        self.assertEqual(asked.take("first 4 3"), "size 4 3\n")
        self.assertEqual(asked.take("count 4 4"), "1 1")
        self.assertEqual(asked.take("holds\nsize 3 1\n"), "yes")
        self.assertEqual(asked.take("follows 8 (or)"), "no\nsize 1 1\n")
        self.assertEqual(asked.take("basis 8"), "")

    def test_a_text_that_is_read(self):
        asked = Desk(text=read_text("kind a\ntie red a\nsay (some x a (red x))\n"))
        self.assertEqual(asked.take(row="least 4"), "size 1\nred 0 1\n")

    def test_against_the_functions(self):
        told = []
        for signs, sizes, totals in ((small_book(), [[1], [2], [3]], range(4)),
                                     (house_book(), [[1, 1], [1, 2], [2, 1], [2, 2]], range(5))):
            sayer = plainly.Sayer(signs, 19)
            for turn in range(6):
                sayings = sayer.sayings(turn % 4, 3)
                asked = desk(signs, sayings)
                for size in sizes:
                    told.append(self.of_a_size(asked, signs, sayings, size))
                for total in totals:
                    told.append(self.to_a_total(asked, signs, sayings, total, sayer.saying(3)))
        self.assertGreater(len(set(told)), 10)

    def of_a_size(self, asked, signs, sayings, size):
        numbers = " ".join(str(number) for number in size)
        world = first_world(signs, sayings, size)
        told = asked.take("first " + numbers)
        self.assertEqual(told, "none" if world is None else write_world(world))
        many = (len(worlds(signs, sayings, size)), len(classes(signs, sayings, size)))
        self.assertEqual(asked.take("count " + numbers), f"{many[0]} {many[1]}")
        for filling in itertools.islice(plainly.fillings_in_order(signs, size), 0, None, 7):
            world = World(signs, size, filling)
            self.assertEqual(asked.take("holds\n" + write_world(world)),
                             " ".join("yes" if holds(world, saying) else "no" for saying in sayings))
        return told

    def to_a_total(self, asked, signs, sayings, total, saying):
        world = least_world(signs, sayings, total)
        self.assertEqual(asked.take(f"least {total}"), "none" if world is None else write_world(world))
        word, found = follows(signs, sayings, saying, total)
        told = asked.take(f"follows {total} {write_saying(signs, saying)}")
        self.assertEqual(told, "yes" if word == "yes" else "no\n" + write_world(found))
        self.assertEqual(asked.take(f"basis {total}"), " ".join(str(at) for at in basis(signs, sayings, total)))
        return told

    def test_asked_twice_and_two_by_turns(self):
        one, other = desk(sayings=SAID), desk(house_book(), [])
        rows = ["least 4", "basis 2", "first 2", "follows 2 (or)"]
        wanted = [one.take(row) for row in rows]
        for turn in range(3):
            for row, told in zip(rows, wanted):
                self.assertEqual(one.take(row), told)
                self.assertEqual(other.take("least 2"), "size 1 1\nnear 0 0 0\nhome 0 0\nking 0\n")
                self.assertRaises(NoRow, one.take, "least")
                self.assertRaises(NoSize, other.take, "first 2")
        again = desk(sayings=SAID)
        self.assertEqual([again.take(row) for row in rows], wanted)

    def test_what_was_handed_in_may_be_changed(self):
        sayings = lists_throughout(SAID)
        text = Text(small_book(), sayings)
        asked = Desk(text)
        sayings.clear()
        text.sayings().clear()
        self.assertEqual(asked.take("basis 2"), "0 1")
        self.assertEqual(text.sayings(), SAID)


class Refused(unittest.TestCase):
    def setUp(self):
        self.asked = desk(sayings=SAID)

    def refused(self, error, row):
        with self.assertRaises(error, msg=repr(row)[:90]) as taken:
            self.asked.take(row)
        self.assertIsInstance(taken.exception, FewError)
        return taken.exception

    def test_numbers_that_lack_or_are_not_so_written(self):
        for word in WORDS:
            for rest in ("", " ", "  ", " 2 ", "  2", " 02", " 00", " -1", " +1", " 2.0", " x", " 2x", " x2", "2", "\n2", "\t2",
                         " 2\n", "\n", " 2\r", " 2 x", " x 2", " 2  2", " 2,2", " 0x2", " 1_0", " \u0662", " \u00b2", " two",
                         " 2\t", " 2\u00a0", " (2)", " None", " ''", " 02 2", " 2 02", " 1e1"):
                self.refused(NoRow, word + rest)
        for word in ("least", "basis"):
            for rest in (" 2 2", " 1 1 1", " 17 2", " 0 0"):
                self.refused(NoRow, word + rest)
        for row in ("follows", "follows ", "follows 2", "follows2 (and)", "follows (and)", "follows  2 (and)", "follows  (and)",
                    "follows 02 (and)", "follows -1 (and)", "follows x (and)", "follows 2(and)", "follows 2\n(and)",
                    "follows\n2 (and)", "follows 2, (and)", "follows (and) 2", "follows + (and)", "follows  ", "follows 2\n"):
            self.refused(NoRow, row)

    def test_other_words(self):
        for row in ("", " ", "\n", "Least 2", "LEAST 2", "leasts 2", "leas 2", " least 2", "\nleast 2", "2", "2 least", "none",
                    "yes", "can 2", "must 2", "worlds 2", "paper 2", "classes 2", "parted 2", "mended 2", "take 2", "say (and)",
                    "kind a", "size 2", "holds", "holds ", "holds " + PAIR, "hold\n" + PAIR, "holds \n" + PAIR, " holds\n" + PAIR,
                    "holds" + PAIR, "holds\r\n" + PAIR, "holds 2", "Holds\n" + PAIR, PAIR, "\nholds\n" + PAIR, "least\u00a02",
                    "deed 2", "follow 2 (and)", "Follows 2 (and)", "__init__ 2", "least 2 (and)", "basis 2 (and)"):
            self.refused(NoRow, row)

    def test_another_thing_than_a_text(self):
        for thing in anything():
            self.refused(NoRow, thing)
        for thing in (b"least 2", ["least 2"], ["least", 2], ("least", "2"), {"least": 2}, bytearray(b"least 2")):
            self.refused(NoRow, thing)

    def test_numbers_that_are_no_total(self):
        for number in ("17", "18", "100", "9" * 60, "1" + "0" * 1900):
            self.refused(NoSize, "least " + number)
            self.refused(NoSize, "basis " + number)
            self.refused(NoSize, f"follows {number} (and)")
        # Where nothing is said the total is looked at all the same.
        self.asked = desk()
        self.refused(NoSize, "basis 17")

    def test_numbers_that_are_no_size(self):
        for word in ("first", "count"):
            for numbers in ("0", "5", "9" * 60, "1" + "0" * 1900, "1 1", "2 2 2", "0 0", "1 1 1 1 1"):
                self.refused(NoSize, f"{word} {numbers}")
        self.asked = desk(house_book())
        for word in ("first", "count"):
            for numbers in ("1", "1 1 1", "0 1", "1 0", "5 1", "1 5"):
                self.refused(NoSize, f"{word} {numbers}")

    def test_what_is_no_saying(self):
        for saying in ("", " ", " (and)", "(and) ", "(and)\n", "\n(and)", "and", "(and", "and)", "()", "(AND)", "(and)(and)",
                       "(and) (and)", "(red x)", "(all x a (blue x))", "(all x b (red x))", "(all x a  (red x))", "2", "x"):
            self.refused(NoSaying, "follows 2 " + saying)
            self.refused(NoSaying, "follows 0 " + saying)

    def test_what_is_no_written_world(self):
        for text in ("", "\n", "none", PAIR[:-1], PAIR + "\n", "\n" + PAIR, " " + PAIR, PAIR + PAIR, "size 2\n", "holds\n" + PAIR,
                     PAIR.replace("next 0 1", "next 0 2"), PAIR.replace("red 0 0\n", ""), PAIR.replace(" ", "  "), "size 5\n",
                     PAIR.replace("red 0 0", "red 0 00"), "size 1 1\n", write_world(first_world(house_book(), [], [1, 1]))):
            self.refused(NoWorld, "holds\n" + text)
        self.asked = desk()
        self.refused(NoWorld, "holds\n")

    def test_too_many_fillings(self):
        for signs, size, many in MORE:
            numbers = " ".join(str(number) for number in size)
            for sayings in ([], [("or",)]):
                self.asked = desk(signs, sayings)
                self.assertEqual(self.refused(TooMany, "first " + numbers).many, many)
                self.assertEqual(self.refused(TooMany, "count " + numbers).many, many)
            world = World(signs, size, dict.fromkeys(cells(signs, size), 0))
            self.assertEqual(self.asked.take("holds\n" + write_world(world)), "no")

    def test_sizes_that_are_come_to(self):
        three = "(all x a (all y a (all z a (or (= x y) (or (= x z) (= y z))))))"
        for total in (4, 16):
            self.asked = desk(ORDER, ORDERED)
            self.assertEqual(self.asked.take(f"least {total}"), "size 1\nless 0 0 0\n")
            self.assertEqual(self.asked.take(f"follows {total} {three}")[:10], "no\nsize 3\n")
            self.assertEqual(self.refused(TooMany, f"follows {total} (and)").many, 65536)
            self.asked = desk(ORDER, ORDERED + [("or",)])
            self.assertEqual(self.refused(TooMany, f"least {total}").many, 65536)
            self.assertEqual(self.refused(TooMany, f"basis {total}").many, 65536)
            self.assertEqual(self.asked.take("least 3"), "none")
            self.asked = desk(ORDER, [])
            self.assertEqual(self.asked.take(f"basis {total}"), "")

    def test_too_many_namings(self):
        signs = Signs(["a", "b", "c"], [("red", ("a",))], [])
        for sayings in ([], [("or",)]):
            self.asked = desk(signs, sayings)
            self.assertEqual(self.refused(TooMany, "count 4 4 2").many, 1152)
            self.assertEqual(self.asked.take("first 4 4 2"), "none" if sayings
                             else "size 4 4 2\nred 0 0\nred 1 0\nred 2 0\nred 3 0\n")
        self.asked = desk(signs, [SOME_RED])
        self.assertEqual(self.asked.take("count 4 4 1"), "15 4")


if __name__ == "__main__":
    unittest.main()
