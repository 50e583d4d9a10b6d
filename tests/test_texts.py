import re
import unittest

from fewthings.errors import FewError, NoSaying, NoSigns, NoText
from fewthings.sayings import read_saying
from fewthings.signs import Signs
from fewthings.texts import Text, read_text, write_text
from tests.things import anything, anything_but, book, clear_throughout, lists_throughout, told_of, tuples_throughout

BARE = "kind a\n"
ROWS = """kind a
kind b
tie rain
tie red a
tie on a b
function zero a
function next a a
function of a b b
say (and)
say (all x a (or (red x) (some y b (on x y))))
say (= (next (zero)) (zero))
""".splitlines()

SAYINGS = [("and",), ("all", "x", "a", ("or", ("red", "x"), ("some", "y", "b", ("on", "x", "y")))),
           ("=", ("next", ("zero",)), ("zero",))]

ROW = {
    "kind": re.compile(r"kind ([a-z]{1,12})"),
    "tie": re.compile(r"tie ([a-z]{1,12})((?: [a-z]{1,12}){0,2})"),
    "function": re.compile(r"function ([a-z]{1,12})((?: [a-z]{1,12}){0,2}) ([a-z]{1,12})"),
    "say": re.compile(r"say (.*)", re.DOTALL),
}
SORTS = ["kind", "tie", "function", "say"]


def joined(rows):
    return "".join([row + "\n" for row in rows])


def is_right(rows):
    """Whether the rows are a right text, asked all at once."""
    found = []
    for row in rows:
        sort = row.partition(" ")[0]
        match = ROW[sort].fullmatch(row) if sort in ROW else None
        if match is None:
            return False
        found.append((sort, match.groups()))
    sorts = [SORTS.index(sort) for sort, groups in found]
    if sorts != sorted(sorts):
        return False
    kinds = [groups[0] for sort, groups in found if sort == "kind"]
    ties = [(groups[0], groups[1].split()) for sort, groups in found if sort == "tie"]
    functions = [(groups[0], groups[1].split(), groups[2]) for sort, groups in found if sort == "function"]
    try:
        signs = Signs(kinds, ties, functions)
        for sort, groups in found:
            if sort == "say":
                read_saying(signs, groups[0])
    except (NoSigns, NoSaying):
        return False
    return True


def wrong_row(text):
    """The number of the first row with which no right text can begin; None of a right text."""
    *rows, rest = text.split("\n")
    for number in range(1, len(rows) + 1):
        if not is_right(rows[:number]):
            return number
    return len(rows) + 1 if rest or not rows else None


class Reading(unittest.TestCase):
    def refused(self, text, row):
        with self.assertRaises(NoText, msg=repr(text)) as taken:
            read_text(text)
        self.assertEqual(taken.exception.row, row, repr(text))
        self.assertIsInstance(taken.exception, FewError)
        self.assertNotIsInstance(taken.exception.row, bool)

    def as_told(self, text):
        """Holds what is read, or refused, against what is asked all at once."""
        row = wrong_row(text)
        if row is not None:
            self.refused(text, row)
        else:
            self.assertEqual(write_text(read_text(text)), text)


class Written(Reading):
    def test_bare(self):
        read = read_text(BARE)
        self.assertIsInstance(read, Text)
        self.assertEqual(told_of(read.signs()), (["a"], [], []))
        self.assertEqual(read.sayings(), [])
        self.assertEqual(write_text(Text(Signs(["a"], [], []), [])), BARE)

    def test_full(self):
        made = Text(Signs(["a", "b"], [("rain", ()), ("red", ("a",)), ("on", ("a", "b"))],
                          [("zero", (), "a"), ("next", ("a",), "a"), ("of", ("a", "b"), "b")]), SAYINGS)
        self.assertEqual(write_text(made), joined(ROWS))
        read = read_text(joined(ROWS))
        self.assertEqual(told_of(read.signs()), told_of(made.signs()))
        self.assertEqual(read.sayings(), SAYINGS)

    def test_there_and_back(self):
        words = ["all", "some", "not", "and"]
        texts = [
            Text(Signs(["d", "c", "b", "a"], [], []), []),
            Text(Signs(words, [], []), [("all", "or", "and", ("=", "or", "or"))]),
            Text(Signs(["kind"], [("kind", ("kind", "kind")), ("say", ())], [("tie", (), "kind")]),
                 [("kind", ("tie",), ("tie",)), ("say",), ("say",)]),
            Text(Signs(["a"], [(name, ()) for name in "stuvwxyz"], []), [(name,) for name in "zyxwvuts"]),
            Text(Signs(["a"], [], [(name, ("a",), "a") for name in "stuvwxyz"]), []),
            Text(Signs(["a", "b"], [("z", ("b", "a"))], [("y", ("b", "b"), "a"), ("x", (), "b")]),
                 [("z", ("x",), ("y", ("x",), ("x",)))]),
            Text(book(), [("or",)] * 8),
        ]
        for made in texts:
            written = write_text(made)
            read = read_text(written)
            self.assertEqual(told_of(read.signs()), told_of(made.signs()))
            self.assertEqual(read.sayings(), made.sayings())
            self.assertEqual(write_text(read), written)
            self.assertIsNone(wrong_row(written))

    def test_by_name(self):
        made = Text(sayings=SAYINGS, signs=read_text(text=joined(ROWS)).signs())
        self.assertEqual(write_text(text=made), joined(ROWS))

    def test_what_a_row_tells(self):
        read = read_text("kind b\nkind a\ntie on b a\nfunction of a b a\nfunction zero b\n")
        self.assertEqual(told_of(read.signs()),
                         (["b", "a"], [("on", ("b", "a"))], [("of", ("a", "b"), "a"), ("zero", (), "b")]))


class Wrong(Reading):
    def test_what_the_document_names(self):
        self.refused("", 1)
        self.refused("tie rain\n", 1)
        self.refused("function zero a\n", 1)
        self.refused("say (and)\n", 1)
        self.refused("say (and)", 1)
        self.refused("kind a", 1)
        self.refused("kind a\nkind b", 2)
        self.refused("kind a\nsay (and)", 2)
        self.refused("\n", 1)
        self.refused("\nkind a\n", 1)
        self.refused("kind a\n\n", 2)
        self.refused("kind a\n\nsay (and)\n", 2)
        self.refused("kind a\n\n\n\n", 2)
        self.refused("kind a\nsay (and)\n\n", 3)

    def test_the_last_line_feed(self):
        for many in range(1, len(ROWS) + 1):
            self.assertEqual(len(read_text(joined(ROWS[:many])).sayings()), max(0, many - 8))
            self.refused(joined(ROWS[:many])[:-1], many)

    def test_right_by_itself(self):
        self.refused("kind a\nkind b\nkind c\nkind d\nkind e\nkind A\n", 5)
        self.refused("kind a\nkind b\nkind a\nnothing\n", 3)
        self.refused("kind a\nkind a\n", 2)
        signs = ["tie s", "tie t a", "tie u a a", "tie v", "function w a", "function x a a", "function y a a a",
                 "function z a"]
        self.assertEqual(read_text(joined(["kind a"] + signs)).sayings(), [])
        self.refused(joined(["kind a"] + signs + ["function r a", "say (s)"]), 10)
        self.refused(joined(["kind a", "tie r"] + signs + ["say (s)"]), 10)
        self.refused("kind a\ntie red\ntie red a\nsay (red)\n", 3)
        self.refused("kind a\ntie red\nfunction red a\nsay (red)\n", 3)
        self.refused("kind a\nfunction red a\nfunction blue a\nfunction red a a\n", 4)
        self.refused("kind a\ntie red b\nkind b\n", 2)
        self.refused("kind a\ntie red red\n", 2)
        self.refused("kind a\nkind b a\n", 2)
        self.refused("kind a\nfunction a\n", 2)
        self.refused("kind a\nfunction zero b\n", 2)
        self.refused("kind a\nfunction zero b a\n", 2)
        self.refused("kind a\nfunction zero a b\n", 2)
        self.refused("kind a\ntie red\nsay (blue)\nsay (red)\n", 3)
        self.refused("kind a\ntie red a\nsay (red)\n", 3)
        self.refused("kind a\nsay (some x b (and))\n", 2)
        self.refused("kind a\nsay (and)\ntie red\n", 3)
        self.refused("kind a\nfunction zero a\ntie red\n", 3)
        self.refused("kind a\ntie red\nkind b\n", 3)

    def test_rows_that_are_none(self):
        for row in ("kind", "kind ", "kind  b", "kind b ", " kind b", "kind b c", "kind B", "kind b1", "Kind b", "kinds b",
                    "kind abcdefghijklm", "kind\tb", "kind b\t", "kind b\r", "kind \u00e9", "kind b\x0b", "kind b\x1c",
                    "kind b\u2028", "kind, b", "tie", "tie ", "tie  red", "tie red ", "tie red  a", "tie red a a a",
                    "tie red c", "tie red a c", "tie Red", "tie red A", "tie all", "tie some", "tie not", "tie and",
                    "tie or", "tie =", "tie (red)", "tie red,a", "function", "function ", "function zero",
                    "function zero ", "function  zero a", "function zero  a", "function zero a ",
                    "function next a a a a", "function all a", "function or a a", "function zero A", "function zero c",
                    "say", "say ", "say  (and)", "say (and) ", "say(and)", "say and", "say x", "say (and) (and)",
                    "say (and)(and)", "say ( and)", "say (rain)", "say (red (zero))", "say (all x c (and))",
                    "Say (and)", "says (and)", "say\t(and)", "(and)", "sign red", "", " ", "#", "a", "say (and)\r"):
            self.refused(joined(["kind a", row]), 2)
            self.refused(joined(["kind a", row, "say (and)", "nothing"]), 2)
            self.refused(joined([row, "kind a"]), 1)
            if row:
                self.refused(joined(["kind a", row])[:-1], 2)

    def test_no_row_end_but_the_line_feed(self):
        for end in ("\r\n", "\r", "\x0b", "\x0c", "\x1c", "\x85", "\u2028", ";", " ", "\n\r"):
            self.refused("kind a" + end + "kind b" + end, 2 if end == "\n\r" else 1)

    def test_each_row_left_out_put_twice_moved_and_in_anothers_place(self):
        for at in range(len(ROWS)):
            self.as_told(joined(ROWS[:at] + ROWS[at + 1:]))
            self.as_told(joined(ROWS[:at] + [ROWS[at]] + ROWS[at:]))
            for to in range(len(ROWS)):
                moved = ROWS[:at] + ROWS[at + 1:]
                self.as_told(joined(moved[:to] + [ROWS[at]] + moved[to:]))
                self.as_told(joined(ROWS[:at] + [ROWS[to]] + ROWS[at + 1:]))

    def test_a_sign_put_in_taken_out_and_another_one(self):
        text = joined(ROWS)
        for at in range(len(text)):
            self.as_told(text[:at] + text[at + 1:])
            for sign in "ab )\nA\u00e9":
                self.as_told(text[:at] + sign + text[at:])
                self.as_told(text[:at] + sign + text[at + 1:])

    def test_each_beginning(self):
        text = joined(ROWS)
        for at in range(len(text) + 1):
            self.as_told(text[:at])

    def test_what_is_no_text(self):
        for thing in anything():
            if not isinstance(thing, str):
                self.refused(thing, 0)
        for thing in ([joined(ROWS)], ROWS, joined(ROWS).encode(), read_text(BARE)):
            self.refused(thing, 0)

    def test_any_text(self):
        for thing in anything():
            if isinstance(thing, str):
                self.refused(thing, 1)
                self.refused(BARE + thing + "\n", 2)


class Made(unittest.TestCase):
    def test_what_are_no_sayings(self):
        for thing in anything_but([], ()):
            with self.assertRaises(NoSaying, msg=repr(thing)[:60]):
                Text(book(), thing)
        for thing in anything():
            with self.assertRaises(NoSaying, msg=repr(thing)[:60]):
                Text(book(), [("rain",), thing])
            with self.assertRaises(NoSaying, msg=repr(thing)[:60]):
                Text(book(), ((thing), ("rain",)))
        for thing in ("(and)", ["(and)"], ("and",), ["and"], {("and",): 0}, {("and",)}, iter([("and",)]), [("red",)],
                      [("rain",), ("snow",)], [[("rain",)]], ("rain",), ("not", ("rain",))):
            with self.assertRaises(NoSaying, msg=repr(thing)[:60]):
                Text(book(), thing)

    def test_lists_for_tuples_and_tuples_for_lists(self):
        said = [("rain",), ("all", "x", "a", ("red", ("next", "x")))]
        for turned in (lists_throughout, tuples_throughout):
            self.assertEqual(Text(book(), turned(said)).sayings(), said)
        self.assertEqual(Text(book(), ()).sayings(), [])

    def test_what_is_told_and_handed_in_may_be_changed(self):
        said = [("rain",), ("all", "x", "a", ("red", ("next", "x")))]
        handed = lists_throughout(said)
        signs = book()
        made = Text(signs, handed)
        self.assertEqual(handed, lists_throughout(said))
        clear_throughout(handed)
        self.assertEqual(made.sayings(), said)
        made.sayings().clear()
        made.sayings()[0] = ("and",)
        made.signs().kinds().clear()
        made.signs().ties().clear()
        made.signs().functions().clear()
        self.assertEqual(made.sayings(), said)
        self.assertEqual(told_of(made.signs()), told_of(book()))

    def test_two_by_turns(self):
        one, other = read_text(joined(ROWS)), read_text(BARE)
        for turn in range(3):
            self.assertEqual(write_text(one), joined(ROWS))
            self.assertEqual(write_text(other), BARE)
            self.assertRaises(NoText, read_text, "kind a\ntie red\nkind b\n")


if __name__ == "__main__":
    unittest.main()
