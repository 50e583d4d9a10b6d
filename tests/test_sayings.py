import unittest

from fewthings.errors import FewError, NoSaying
from fewthings.sayings import looked_over, read_saying, write_saying
from fewthings.signs import Signs
from tests.things import anything, anything_but, book, clear_throughout, lists_throughout, put, tuples_throughout

RED = ("red", ("zero",))

# Each form of a saying, with how it is written.
WRITTEN = [
    (("rain",), "(rain)"),
    (("and",), "(and)"),
    (("or",), "(or)"),
    (("not", ("rain",)), "(not (rain))"),
    (("and", ("rain",)), "(and (rain))"),
    (("or", ("rain",), ("and",)), "(or (rain) (and))"),
    (("and", ("rain",), ("or",), ("rain",), ("not", ("or",))), "(and (rain) (or) (rain) (not (or)))"),
    (("red", ("zero",)), "(red (zero))"),
    (("red", ("next", ("next", ("zero",)))), "(red (next (next (zero))))"),
    (("on", ("zero",), ("one",)), "(on (zero) (one))"),
    (("b", ("one",), ("of", ("zero",), ("one",))), "(b (one) (of (zero) (one)))"),
    (("=", ("zero",), ("next", ("zero",))), "(= (zero) (next (zero)))"),
    (("=", ("one",), ("of", ("zero",), ("one",))), "(= (one) (of (zero) (one)))"),
    (("all", "x", "a", ("rain",)), "(all x a (rain))"),
    (("some", "x", "b", ("rain",)), "(some x b (rain))"),
    (("all", "x", "a", ("red", "x")), "(all x a (red x))"),
    (("some", "x", "b", ("=", "x", ("one",))), "(some x b (= x (one)))"),
    (("all", "x", "a", ("=", ("next", "x"), ("zero",))), "(all x a (= (next x) (zero)))"),
    (("all", "x", "a", ("some", "y", "b", ("on", "x", "y"))), "(all x a (some y b (on x y)))"),
    (("some", "abcdefghijkl", "a", ("=", "abcdefghijkl", "abcdefghijkl")),
     "(some abcdefghijkl a (= abcdefghijkl abcdefghijkl))"),
    (("and", ("all", "x", "a", ("red", "x")), ("all", "x", "b", ("=", "x", "x"))),
     "(and (all x a (red x)) (all x b (= x x)))"),
    (("all", "x", "a", ("and", ("some", "x", "b", ("b", "x", "x")), ("red", "x"))),
     "(all x a (and (some x b (b x x)) (red x)))"),
]

# What is no saying of the book, though it looks much like one.
NO_SAYINGS = [
    (), ("",), ("zero",), ("next", ("zero",)), ("x",), ("a",), ("rains",), ("Rain",), ("rain ",), ("=",), ("all",),
    ("some",), ("not",), (("rain",),), ("and", ()), ("kind", "a"), ("==", ("zero",), ("zero",)),
    # "not" of none and of two, things of "and" and "or" that are no sayings
    ("not", ("rain",), ("rain",)), ("not", ("rain",), "rain"), ("not", "rain"), ("and", "rain"), ("or", "rain"),
    ("and", ("rain",), ("zero",)), ("or", ("rain",), "x"), ("and", ("rain",), ("rain",), ("not",)),
    ("not", ("zero",)), ("and", [("rain",)]), ("or", [("rain",), ("rain",)]),
    # too many and too few terms
    ("rain", ("zero",)), ("red",), ("red", ("zero",), ("zero",)), ("on", ("zero",)), ("b", ("one",)), ("on",),
    ("on", ("zero",), ("one",), ("one",)), ("=", ("zero",)), ("=", ("zero",), ("zero",), ("zero",)),
    ("red", ("zero", ("zero",))), ("red", ("next",)), ("red", ("next", ("zero",), ("zero",))),
    ("red", (("zero",),)), ("on", (("zero",), ("one",))), ("=", (("zero",), ("zero",))),
    ("=", ("one",), ("of", ("zero",))), ("=", ("one",), ("of", ("zero",), ("one",), ("one",))),
    # terms of another kind
    ("red", ("one",)), ("on", ("one",), ("zero",)), ("on", ("zero",), ("zero",)), ("on", ("one",), ("one",)),
    ("b", ("zero",), ("one",)), ("b", ("one",), ("zero",)), ("=", ("zero",), ("one",)), ("=", ("one",), ("zero",)),
    ("red", ("next", ("one",))), ("=", ("one",), ("of", ("one",), ("one",))),
    ("=", ("one",), ("of", ("zero",), ("zero",))), ("red", ("of", ("zero",), ("one",))),
    ("all", "x", "b", ("red", "x")), ("all", "x", "a", ("=", "x", ("one",))),
    ("some", "x", "b", ("red", ("next", "x"))),
    ("all", "x", "a", ("all", "y", "b", ("=", "x", "y"))), ("all", "x", "a", ("all", "y", "b", ("on", "y", "x"))),
    # unknown functions, ties and kinds, signs in the wrong place
    ("red", ("nought",)), ("blue", ("zero",)), ("red", ("rain",)), ("red", ("red", ("zero",))), ("red", ("and",)),
    ("red", ("=", ("zero",), ("zero",))), ("red", RED), ("=", RED, RED), ("=", ("rain",), ("rain",)), ("red", ()),
    ("all", "x", "c", ("rain",)), ("some", "x", "x", ("rain",)), ("all", "x", "red", ("rain",)),
    ("all", "x", "A", ("rain",)), ("all", "x", ("a",), ("rain",)), ("all", "x", "", ("rain",)),
    # variables that are no names, things of "all" and "some" too many or too few, or no saying behind
    ("all", "X", "a", ("rain",)), ("all", "", "a", ("rain",)), ("all", "x1", "a", ("rain",)),
    ("some", "abcdefghijklm", "a", ("rain",)), ("all", ("x",), "a", ("rain",)), ("all", "x\n", "a", ("rain",)),
    ("all", "x", "a"), ("all", "x", ("rain",)), ("all", "a", ("red", "a")), ("some", "x", "a"), ("some", ("rain",)),
    ("all", "x", "a", ("rain",), ("rain",)), ("all", "x", "y", "a", ("red", "x")), ("all", "x", "a", "x"),
    ("some", "x", "a", "rain"), ("some", "x", "a", ("next", "x")), ("all", ("x", "a"), ("rain",)),
    # variables within no "all" or "some" with them
    ("red", "x"), ("red", "zero"), ("=", "x", "x"), ("red", ("next", "x")), ("all", "x", "a", ("red", "y")),
    ("all", "x", "a", ("red", "zero")), ("all", "x", "a", ("red", "a")),
    ("and", ("all", "x", "a", ("red", "x")), ("red", "x")),
    ("or", ("red", "x"), ("some", "x", "a", ("red", "x"))), ("all", "x", "a", ("=", "x", ("next", "y"))),
    ("all", "x", "a", ("and", ("some", "y", "a", ("=", "x", "y")), ("red", "y"))),
    ("all", "x", "a", ("red", ("x",))), ("all", "x", "a", ("x",)),
    # the innermost one is meant, and behind it the outer one again
    ("all", "x", "a", ("some", "x", "b", ("red", "x"))), ("all", "x", "b", ("some", "x", "a", ("b", "x", "x"))),
    ("all", "x", "a", ("and", ("some", "x", "b", ("b", "x", "x")), ("b", "x", "x"))),
    ("all", "x", "a", ("and", ("b", "x", "x"), ("some", "x", "b", ("b", "x", "x")))),
    ("all", "x", "a", ("some", "x", "b", ("all", "x", "a", ("b", "x", "x")))),
]


# Texts that are near to written sayings of the book, and are none.
MISWRITTEN = [
    "", " ", "x", "rain", "()", "(", ")", "( )", ")(", "(rain", "rain)", "(rain))", "((rain)", "((rain))",
    "(rain)(rain)", "(rain) (rain)", "(rain) rain", "rain (rain)", "(rain)x", "x(rain)", "[rain]",
    "(and(rain))", "(and (rain)(rain))", "(and (rain)(rain) )", "(and  (rain))", "(and )", "( and)", "(and) ",
    " (and)", "(and)\n", "\n(and)", "(and\n)", "(and\t(rain))", "(and\n(rain))", "(and)\t", "(and (rain) )",
    "(and ( rain))", "(red(zero))", "(red zero)", "(red ((zero)))", "(red (zero) )", "(And)", "(AND)",
    "(RAIN)", "(rain1)", "(1)", "(and 1)", "(= (zero) (zero)", "(=(zero) (zero))", "(= (zero)(zero))",
    "(= (zero) (zero)))", "(== (zero) (zero))", "('rain',)", "(\"rain\")", "(rain,)", "(and, (rain))",
    "(all x a(red x))", "(all x  a (red x))", "(all (x) a (red x))", "(all x a (red x)", "(all x a (red x)))",
    "(all x a (Red x))", "(all X a (red X))", "(all x a (red y))", "(all x c (rain))", "(all x1 a (red x1))",
    "(all x a red x)", "(all x a x)", "(and)(", "(and))", ")(and)", "(and)()", "() (and)", "(and ())",
    "(and)\x00", "(and)\r", "(and)\u00a0", "(and\u00a0(rain))", "\ufeff(and)", "(and\u2003(rain))",
    "\uff08and\uff09", "(r\u0430in)", "(and \x0b(rain))", "(and)#", "; (and)",
]


def deep(many):
    """A saying that is so deep, and of as many parts."""
    saying = ("rain",)
    for turn in range(many - 1):
        saying = ("not", saying)
    return saying


def deep_term(many):
    """A saying with a term within it that is one less deep."""
    term = ("zero",)
    for turn in range(many - 2):
        term = ("next", term)
    return ("red", term)


def great():
    """Eighty parts, twelve deep, with three of "all" and "some" within one another."""
    term = "x"
    for turn in range(6):
        term = ("next", term)
    inner = ("on", term, "y")
    row = [("all", "z", "a", inner)] + [("=", "x", "x")] * 22 + [("rain",)]
    return ("all", "x", "a", ("some", "y", "b", tuple(["or"] + row)))


def parts(saying):
    """How many parts a saying or term has; names of variables and kinds bound by it are none."""
    if isinstance(saying, str):
        return 1
    return 1 + sum([parts(part) for part in inner_parts(saying)])


def depth(saying):
    if isinstance(saying, str):
        return 1
    return 1 + max([depth(part) for part in inner_parts(saying)], default=0)


def inner_parts(saying):
    return saying[3:] if saying[0] in ("all", "some") else saying[1:]


class Refusing(unittest.TestCase):
    def setUp(self):
        self.signs = book()

    def refused(self, deed, thing):
        with self.assertRaises(NoSaying) as caught:
            deed(self.signs, thing)
        self.assertIsInstance(caught.exception, FewError)


class LookedOver(Refusing):
    def taken(self, saying):
        self.assertEqual(looked_over(self.signs, saying), saying)

    def test_each_form(self):
        for saying, text in WRITTEN:
            self.taken(saying)

    def test_no_sayings(self):
        for thing in NO_SAYINGS:
            self.refused(looked_over, thing)
            self.refused(looked_over, lists_throughout(thing))
            self.refused(looked_over, ("not", thing))
            self.refused(looked_over, ("and", ("rain",), thing))
            self.refused(looked_over, ("or", thing, ("rain",)))
            self.refused(looked_over, ("some", "other", "b", thing))

    def test_bound_again_further_in(self):
        self.taken(("all", "x", "a", ("some", "x", "b", ("b", "x", "x"))))
        self.taken(("all", "x", "a", ("and", ("red", "x"), ("some", "x", "b", ("b", "x", "x")), ("red", "x"))))
        self.taken(("all", "x", "b", ("some", "x", "a", ("all", "x", "b", ("=", "x", ("one",))))))
        self.taken(("some", "x", "a", ("some", "x", "a", ("red", "x"))))

    def test_variables_called_like_other_things(self):
        for name in ("a", "b", "rain", "red", "zero", "next", "all", "some", "not", "and", "or"):
            for word in ("all", "some"):
                self.taken((word, name, "a", ("red", name)))
                self.taken((word, name, "a", ("red", ("next", name))))
                self.taken((word, name, "b", ("and", ("=", name, ("one",)), ("rain",), ("red", ("zero",)))))
                self.refused(looked_over, (word, name, "b", ("red", name)))
                self.refused(looked_over, (word, name, "a", name))

    def test_kinds_called_like_other_things(self):
        ties = [("red", ("red",)), ("on", ("all", "not"))]
        self.signs = Signs(["all", "not", "red", "x"], ties, [("x", ("x",), "red")])
        self.taken(("all", "all", "all", ("some", "not", "not", ("on", "all", "not"))))
        self.taken(("all", "red", "red", ("red", "red")))
        self.taken(("some", "x", "x", ("red", ("x", "x"))))
        self.refused(looked_over, ("all", "all", "not", ("some", "not", "all", ("on", "all", "not"))))
        self.refused(looked_over, ("some", "x", "x", ("red", "x")))
        self.refused(looked_over, ("all", "x", "and", ("and",)))

    def test_sayings_of_another_book(self):
        one, other = self.signs, Signs(["a"], [("red", ())], [("rain", (), "a")])
        for turn in range(2):
            self.assertEqual(looked_over(one, RED), RED)
            self.assertEqual(looked_over(other, ("red",)), ("red",))
            self.signs = other
            self.refused(looked_over, RED)
            self.refused(looked_over, ("rain",))
            self.taken(("=", ("rain",), ("rain",)))
            self.signs = one
            self.refused(looked_over, ("red",))

    def test_a_book_without_signs(self):
        self.signs = Signs(["a"], [], [])
        self.taken(("and",))
        self.taken(("all", "x", "a", ("some", "y", "a", ("not", ("=", "x", "y")))))
        self.refused(looked_over, ("rain",))

    def test_any_number_of_sayings(self):
        for word in ("and", "or"):
            for many in (0, 1, 2, 3, 40, 79):
                self.taken(tuple([word] + [("rain",)] * many))
                self.refused(looked_over, tuple([word] + [("rain",)] * many + [("snow",)]))

    def test_up_to_the_bounds(self):
        self.assertEqual((parts(great()), depth(great())), (80, 12))
        self.taken(great())
        self.taken(deep(12))
        self.taken(deep_term(12))
        self.refused(looked_over, ("red", deep(11)))

    def test_somewhat_beyond_the_bounds(self):
        for many in (13, 14, 20, 40):
            self.taken(deep(many))
            self.taken(deep_term(many))
        self.taken(("and", great(), great()))

    def test_tuples_throughout(self):
        for saying, text in WRITTEN + [(great(), "")]:
            for handed in (lists_throughout(saying), list(saying), tuples_throughout(saying)):
                self.assertEqual(repr(looked_over(self.signs, handed)), repr(saying))

    def test_what_is_handed_in_stays(self):
        for saying, text in WRITTEN + [(great(), "")]:
            handed = lists_throughout(saying)
            told = looked_over(self.signs, handed)
            self.assertEqual(handed, lists_throughout(saying))
            clear_throughout(handed)
            self.assertEqual(told, saying)

    def test_what_is_refused_stays(self):
        for thing in NO_SAYINGS:
            handed = lists_throughout(thing)
            self.refused(looked_over, handed)
            self.assertEqual(handed, lists_throughout(thing))

    def test_asked_again(self):
        for turn in range(3):
            for saying, text in WRITTEN:
                self.taken(saying)
            for thing in NO_SAYINGS[:20]:
                self.refused(looked_over, thing)

    def test_the_book_stays(self):
        looked_over(self.signs, great())
        fresh = book()
        self.assertEqual(self.signs.kinds(), fresh.kinds())
        self.assertEqual(self.signs.ties(), fresh.ties())
        self.assertEqual(self.signs.functions(), fresh.functions())

    def test_by_name(self):
        self.assertEqual(looked_over(thing=["rain"], signs=self.signs), ("rain",))


class Anything(Refusing):
    def test_looked_over(self):
        for thing in anything():
            self.refused(looked_over, thing)
        for thing in anything_but("and"):
            self.refused(looked_over, [thing])
            self.refused(looked_over, [thing, ("rain",)])
        for thing in anything_but("="):
            self.refused(looked_over, [thing, ("zero",), ("zero",)])

    def test_each_place(self):
        for deed in (looked_over, write_saying):
            for thing in anything():
                for saying in (("not", thing), ("and", ("rain",), thing), ("or", thing), ("rain", thing),
                               ("red", thing), ("red", ("next", thing)), ("=", thing, ("zero",)),
                               ("=", ("zero",), thing), ("all", "x", "a", thing)):
                    self.refused(deed, saying)
            for thing in anything_but("a"):
                self.refused(deed, ("some", "x", thing, ("red", "x")))

    def test_a_variable_of_anything(self):
        for thing in anything_but("a", "x", "abc", "and"):
            self.refused(looked_over, ("all", thing, "a", ("rain",)))
            self.refused(looked_over, ("some", thing, "b", ("rain",)))
            self.refused(looked_over, ("some", thing, "a", ("red", thing)))

    def test_a_term_of_anything(self):
        for thing in anything_but("x"):
            self.refused(looked_over, ("all", "x", "a", ("red", thing)))
            self.refused(looked_over, ("all", "x", "a", ("red", ("next", thing))))
            self.refused(looked_over, ("all", "x", "a", ("=", "x", thing)))
            self.refused(looked_over, ("all", "x", "a", ("=", thing, "x")))

    def test_things_within_a_saying(self):
        saying = ("all", "x", "a", ("some", "y", "b", ("on", ("next", "x"), ("of", "x", "y"))))
        for thing in anything_but("a", "x", "abc", "and"):
            for path in ([0], [1], [2], [3], [3, 0], [3, 1], [3, 2], [3, 3], [3, 3, 0], [3, 3, 1], [3, 3, 1, 0],
                         [3, 3, 1, 1], [3, 3, 2], [3, 3, 2, 0], [3, 3, 2, 1], [3, 3, 2, 2]):
                self.refused(looked_over, put(saying, path, thing))
                self.refused(write_saying, put(saying, path, thing))

    def test_a_list_that_holds_itself(self):
        for word in ("and", "or", "not", "red", "next", "rain"):
            thing = [word]
            thing.append(thing)
            self.refused(looked_over, thing)
            self.refused(looked_over, ("red", thing))
        thing = ["all", "x", "a"]
        thing.append(thing)
        self.refused(looked_over, thing)

    def test_deep_things_that_are_no_sayings(self):
        thing = ["and"]
        for turn in range(20000):
            thing = ["not", thing] if turn % 2 else ["next", thing]
        self.refused(looked_over, thing)
        self.refused(looked_over, ("red", thing))
        while len(thing) > 1:
            thing = thing.pop()

    def test_written(self):
        for thing in anything():
            self.refused(write_saying, thing)

    def test_read(self):
        for thing in anything_but("(and)"):
            self.refused(read_saying, thing)
        for saying, text in WRITTEN:
            self.refused(read_saying, saying)
            self.refused(read_saying, lists_throughout(saying))
            self.refused(read_saying, text.encode())
            self.refused(read_saying, [text])
            self.refused(read_saying, list(text))


class Written(Refusing):
    def test_each_form(self):
        for saying, text in WRITTEN:
            self.assertEqual(write_saying(self.signs, saying), text)
            self.assertEqual(write_saying(self.signs, lists_throughout(saying)), text)
            self.assertEqual(read_saying(self.signs, text), saying)
            self.assertEqual(repr(read_saying(self.signs, text)), repr(saying))

    def test_up_to_the_bounds_and_somewhat_beyond(self):
        for saying in (great(), deep(12), deep_term(12), deep(14), deep_term(20), deep(40), ("or", great(), great())):
            text = write_saying(self.signs, saying)
            self.assertEqual(read_saying(self.signs, text), saying)
            self.assertEqual(write_saying(self.signs, read_saying(self.signs, text)), text)
        self.assertEqual(write_saying(self.signs, deep(12)), "(not " * 11 + "(rain)" + ")" * 11)

    def test_what_is_no_saying_is_not_written(self):
        for thing in NO_SAYINGS:
            self.refused(write_saying, thing)
            self.refused(write_saying, lists_throughout(thing))

    def test_what_is_no_saying_is_not_read(self):
        def bare(thing):
            return thing if isinstance(thing, str) else "(" + " ".join([bare(part) for part in thing]) + ")"
        for thing in NO_SAYINGS:
            self.refused(read_saying, bare(thing))
            self.refused(read_saying, "(not " + bare(thing) + ")")

    def test_what_is_handed_in_stays(self):
        for saying, text in WRITTEN:
            handed = lists_throughout(saying)
            write_saying(self.signs, handed)
            self.assertEqual(handed, lists_throughout(saying))

    def test_by_name(self):
        self.assertEqual(write_saying(saying=("rain",), signs=self.signs), "(rain)")
        self.assertEqual(read_saying(text="(rain)", signs=self.signs), ("rain",))

    def test_variables_called_like_words(self):
        for name in ("all", "some", "not", "and", "or", "a", "red", "zero"):
            saying = ("all", name, "a", ("red", name))
            text = f"(all {name} a (red {name}))"
            self.assertEqual(write_saying(self.signs, saying), text)
            self.assertEqual(read_saying(self.signs, text), saying)


class Misread(Refusing):
    def test_texts(self):
        for text in MISWRITTEN:
            self.refused(read_saying, text)

    def test_each_sign_put_in_or_left_out(self):
        for saying, text in WRITTEN:
            for place in range(len(text) + 1):
                for sign in " ()\t\n\rA1=":
                    self.reads_just_itself(text[:place] + sign + text[place:])
                    self.reads_just_itself(text[:place] + sign + text[place + 1:])
                self.reads_just_itself(text[:place] + text[place + 1:])

    def reads_just_itself(self, text):
        try:
            saying = read_saying(self.signs, text)
        except NoSaying:
            return
        # The letters may make another saying of it; blanks and brackets never make the same one.
        self.assertEqual(write_saying(self.signs, saying), text)

    def test_blanks_and_brackets(self):
        for saying, text in WRITTEN:
            for place in range(len(text) + 1):
                for sign in " \t\n()":
                    self.refused(read_saying, text[:place] + sign + text[place:])
                if text[place:place + 1] in ("(", ")", " "):
                    self.refused(read_saying, text[:place] + text[place + 1:])

    def test_long_texts(self):
        for text in ("(" * 2000, ")" * 2000, "(" * 1000 + ")" * 1000, "(not " * 400, "a" * 2000, " " * 2000,
                     "(not " * 330 + "x" + ")" * 330, "(red " + "(next " * 285 + ")" * 285 + ")"):
            self.refused(read_saying, text)


if __name__ == "__main__":
    unittest.main()
