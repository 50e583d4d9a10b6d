import string
import unittest

from fewthings.errors import FewError, NoSigns
from fewthings.signs import Signs
from tests.things import anything, anything_but, clear_throughout, lists_throughout, put, tuples_throughout

KINDS = ["a", "b"]
TIES = [("rain", ()), ("red", ("a",)), ("on", ("a", "b"))]
FUNCTIONS = [("zero", (), "a"), ("next", ("a",), "a"), ("of", ("b", "a"), "b")]
WORDS = ["all", "some", "not", "and", "or"]
NAMES = ["a", "z", "ab", "name", "kinds", "abcdefghijkl", "mnopqrstuvwx", "zzzzzzzzzzzz", "allx", "nota", "ands"]
NO_NAMES = ["", "abcdefghijklm", "a" * 100, "A", "Z", "aB", "Ab", "a1", "1", "1a", "a_b", "_", "a-b", "a b", " a", "a ",
            " ", "a\n", "\n", "\na", "a\t", "a\r", "a\x00", "=", "(", "a)", "a.", "`", "{", "@", "[", "\u00e9",
            "\u00df", "\u0430", "\uff41", "a\u0301", "\ud800", "\u00aa", "\u0131", "\u0661"]


def many_names(many):
    return [letter * 2 for letter in string.ascii_lowercase[:many]]


class Refusing(unittest.TestCase):
    def refused(self, kinds, ties, functions):
        with self.assertRaises(NoSigns) as caught:
            Signs(kinds, ties, functions)
        self.assertIsInstance(caught.exception, FewError)

    def taken(self, kinds, ties, functions):
        made = Signs(kinds, ties, functions)
        self.assertEqual(made.kinds(), list(kinds))
        self.assertEqual(made.ties(), [(name, tuple(places)) for name, places in ties])
        self.assertEqual(made.functions(), [(name, tuple(places), kind) for name, places, kind in functions])


class Names(Refusing):
    def test_names_of_kinds(self):
        for name in NAMES + WORDS + ["abcdefghijkl", string.ascii_lowercase[:12], string.ascii_lowercase[14:]]:
            self.taken([name], [], [])
            self.taken([name], [("tie", (name,))], [("function", (name, name), name)])

    def test_no_names_of_kinds(self):
        for name in NO_NAMES:
            self.refused([name], [], [])
            self.refused(["a", name], [], [])
            self.refused([name], [("tie", (name,))], [])

    def test_names_of_ties_and_functions(self):
        for name in NAMES:
            self.taken(["a"], [(name, ("a",))], [])
            self.taken(["a"], [], [(name, ("a",), "a")])

    def test_no_names_of_ties_and_functions(self):
        for name in NO_NAMES + WORDS:
            self.refused(["a"], [(name, ("a",))], [])
            self.refused(["a"], [("fine", ()), (name, ())], [])
            self.refused(["a"], [], [(name, ("a",), "a")])
            self.refused(["a"], [], [("fine", (), "a"), (name, (), "a")])

    def test_every_letter(self):
        for letter in string.ascii_lowercase:
            self.taken([letter], [], [])
            self.taken([letter * 12], [], [])
            self.refused([letter * 13], [], [])
            self.refused([letter.upper()], [], [])


class Kinds(Refusing):
    def test_how_many(self):
        self.refused([], [], [])
        for many in (1, 2, 3, 4):
            self.taken(many_names(many), [], [])
        for many in (5, 6, 20):
            self.refused(many_names(many), [], [])

    def test_none_twice(self):
        self.refused(["a", "a"], [], [])
        self.refused(["a", "b", "c", "a"], [], [])
        self.refused(["a", "b", "b"], [], [])

    def test_called_like_signs_and_words(self):
        self.taken(["all", "some", "not", "and"], [("tie", ("all", "some"))], [("function", ("not",), "and")])
        self.taken(["or"], [], [])
        self.taken(["red", "next"], [("red", ("red", "next"))], [("next", ("next",), "red")])


class Ties(Refusing):
    def test_how_many_signs(self):
        names = many_names(9)
        for split in range(10):
            ties = [(name, ()) for name in names[:split]]
            functions = [(name, (), "a") for name in names[split:]]
            self.refused(["a"], ties, functions)
            self.taken(["a"], ties[1:], functions if ties else functions[1:])
        self.taken(["a"], [], [])

    def test_no_two_with_one_name(self):
        self.refused(["a"], [("red", ()), ("red", ())], [])
        self.refused(["a"], [("red", ()), ("on", ()), ("red", ("a", "a"))], [])
        self.refused(["a"], [], [("zero", (), "a"), ("zero", ("a",), "a")])
        self.refused(["a"], [("red", ())], [("red", (), "a")])
        self.refused(["a"], [("on", ()), ("red", ("a",))], [("zero", (), "a"), ("red", (), "a")])

    def test_how_many_places(self):
        for places in ((), ("a",), ("a", "a"), ("a", "b"), ("b", "a")):
            self.taken(KINDS, [("red", places)], [])
            self.taken(KINDS, [], [("next", places, "b")])
        for places in (("a", "a", "a"), ("a", "b", "a", "b")):
            self.refused(KINDS, [("red", places)], [])
            self.refused(KINDS, [], [("next", places, "b")])

    def test_places_and_values_are_of_the_kinds(self):
        self.refused(KINDS, [("red", ("c",))], [])
        self.refused(KINDS, [("red", ("a", "c"))], [])
        self.refused(KINDS, [("red", ("red",))], [])
        self.refused(KINDS, [], [("next", ("c",), "a")])
        self.refused(KINDS, [], [("next", ("b", "c"), "a")])
        self.refused(KINDS, [], [("next", (), "c")])
        self.refused(KINDS, [], [("next", ("a",), "next")])
        self.refused(KINDS, [], [("next", ("a",), "ab")])
        self.refused(["ab"], [("red", ("a",))], [])

    def test_a_thing_too_many_or_too_few(self):
        for tie in ((), ("red",), ("red", ("a",), "a"), ("red", ("a",), ()), ("red", "a", "b")):
            self.refused(KINDS, [tie], [])
            self.refused(KINDS, [list(tie)], [])
        for function in ((), ("next",), ("next", ("a",)), ("next", ("a",), "a", "a"), ("next", (), "a", ())):
            self.refused(KINDS, [], [function])
            self.refused(KINDS, [], [list(function)])

    def test_a_function_among_ties_and_a_tie_among_functions(self):
        self.refused(KINDS, [("next", ("a",), "a")], [])
        self.refused(KINDS, [], [("red", ("a",))])

    def test_a_text_is_no_list(self):
        self.refused("a", [], [])
        self.refused("ab", [], [])
        self.refused(["a"], "", [])
        self.refused(["a"], [], "")
        self.refused(["a"], [("red", "")], [])
        self.refused(["a"], [("red", "a")], [])
        self.refused(["a"], [("red", "aa")], [])
        self.refused(["a"], [], [("next", "", "a")])
        self.refused(["a"], [], [("next", "a", "a")])
        self.refused(["a"], ["ra"], [])
        self.refused(["a"], [], ["nxa"])


class Anything(Refusing):
    def test_kinds_of_anything(self):
        for thing in anything_but(["a", "b"]):
            self.refused(thing, TIES, FUNCTIONS)
        for thing in anything_but("a", "x", "abc", "and"):
            self.refused([thing], [], [])
            self.refused([thing, "b"], [], [])
            self.refused(["b", thing], [], [])

    def test_ties_of_anything(self):
        for thing in anything_but([], ()):
            self.refused(["a"], thing, [])
        for thing in anything():
            for place in (0, 1, 2):
                self.refused(KINDS, put(TIES, [place], thing), FUNCTIONS)

    def test_functions_of_anything(self):
        for thing in anything_but([], ()):
            self.refused(["a"], [], thing)
        for thing in anything():
            for place in (0, 1, 2):
                self.refused(KINDS, TIES, put(FUNCTIONS, [place], thing))

    def test_names_of_anything(self):
        for thing in anything_but("a", "x", "abc"):
            self.refused(KINDS, put(TIES, [1, 0], thing), FUNCTIONS)
            self.refused(KINDS, TIES, put(FUNCTIONS, [1, 0], thing))

    def test_places_of_anything(self):
        for thing in anything_but([], (), ["a", "a"]):
            self.refused(KINDS, put(TIES, [1, 1], thing), FUNCTIONS)
            self.refused(KINDS, TIES, put(FUNCTIONS, [1, 1], thing))
        for thing in anything_but("a"):
            for place in (0, 1):
                self.refused(KINDS, put(TIES, [2, 1, place], thing), FUNCTIONS)
                self.refused(KINDS, TIES, put(FUNCTIONS, [2, 1, place], thing))
            self.refused(KINDS, TIES, put(FUNCTIONS, [2, 2], thing))

    def test_the_whole_of_anything(self):
        for thing in anything():
            self.refused(thing, thing, thing)


class Telling(Refusing):
    def test_as_the_interface_tells(self):
        made = Signs(KINDS, TIES, FUNCTIONS)
        self.assertEqual(made.kinds(), ["a", "b"])
        self.assertEqual(made.ties(), [("rain", ()), ("red", ("a",)), ("on", ("a", "b"))])
        self.assertEqual(made.functions(), [("zero", (), "a"), ("next", ("a",), "a"), ("of", ("b", "a"), "b")])

    def test_in_the_order_handed_in(self):
        made = Signs(["d", "a", "c", "b"], TIES[::-1], FUNCTIONS[::-1])
        self.assertEqual(made.kinds(), ["d", "a", "c", "b"])
        self.assertEqual(made.ties(), TIES[::-1])
        self.assertEqual(made.functions(), FUNCTIONS[::-1])

    def test_lists_for_tuples_and_tuples_for_lists(self):
        for turned in (lists_throughout, tuples_throughout):
            made = Signs(turned(KINDS), turned(TIES), turned(FUNCTIONS))
            self.assertEqual(made.kinds(), KINDS)
            self.assertEqual(made.ties(), TIES)
            self.assertEqual(made.functions(), FUNCTIONS)

    def test_by_name(self):
        made = Signs(functions=FUNCTIONS, kinds=KINDS, ties=TIES)
        self.assertEqual((made.kinds(), made.ties(), made.functions()), (KINDS, TIES, FUNCTIONS))

    def test_what_is_handed_in_stays(self):
        handed = [lists_throughout(KINDS), lists_throughout(TIES), lists_throughout(FUNCTIONS)]
        Signs(*handed)
        self.assertEqual(handed, [lists_throughout(KINDS), lists_throughout(TIES), lists_throughout(FUNCTIONS)])

    def test_what_was_handed_in_may_be_changed(self):
        for changed in (0, 1, 2):
            handed = [lists_throughout(KINDS), lists_throughout(TIES), lists_throughout(FUNCTIONS)]
            made = Signs(*handed)
            clear_throughout(handed[changed])
            self.assertEqual((made.kinds(), made.ties(), made.functions()), (KINDS, TIES, FUNCTIONS))

    def test_what_is_told_may_be_changed(self):
        made = Signs(KINDS, TIES, FUNCTIONS)
        first = [made.kinds(), made.ties(), made.functions()]
        second = [made.kinds(), made.ties(), made.functions()]
        for told in first:
            told.clear()
        self.assertEqual(second, [KINDS, TIES, FUNCTIONS])
        for told in second:
            told[0] = "changed"
            told.append("more")
        self.assertEqual([made.kinds(), made.ties(), made.functions()], [KINDS, TIES, FUNCTIONS])

    def test_two_books_by_turns(self):
        one = Signs(["a"], [("red", ("a",))], [])
        self.refused(["a"], [("red", ("b",))], [])
        other = Signs(["b", "a"], [], [("red", (), "b")])
        for turn in range(3):
            self.assertEqual((one.kinds(), one.ties(), one.functions()), (["a"], [("red", ("a",))], []))
            self.assertEqual((other.kinds(), other.ties(), other.functions()), (["b", "a"], [], [("red", (), "b")]))


if __name__ == "__main__":
    unittest.main()
