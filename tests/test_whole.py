"""The whole program: its names and arguments, its refusals, and what README.md tells of it."""

import ast
import importlib
import inspect
import pathlib
import unittest

from fewthings import errors
from fewthings.bounds import can, first_with, must
from fewthings.classes import classes, how_many_like
from fewthings.desk import Desk
from fewthings.following import basis, follows, parted
from fewthings.holding import holds, read_over
from fewthings.mending import is_near_paper, mended, near_paper
from fewthings.names import least_like, naming_to, namings, renamed, staying
from fewthings.papers import paper
from fewthings.reader import is_paper
from fewthings.sayings import looked_over, read_saying, write_saying
from fewthings.seeking import first_world, least_world, worlds
from fewthings.signs import Signs
from fewthings.sizes import fillings, sizes_to
from fewthings.texts import Text, read_text, write_text
from fewthings.worlds import World, cells, values
from fewthings.worldtexts import read_world, write_world
from tests.things import lists_throughout, small_book, told_of

README = pathlib.Path(__file__).resolve().parent.parent / "README.md"

# Each file's functions with their arguments; a class with those it is made of, and its methods with theirs.
FUNCTIONS = {
    "sayings": {"looked_over": "signs thing", "write_saying": "signs saying", "read_saying": "signs text"},
    "texts": {"write_text": "text", "read_text": "text"},
    "worlds": {"cells": "signs size", "values": "signs size cell"},
    "holding": {"holds": "world saying", "read_over": "signs size part saying"},
    "sizes": {"fillings": "signs size", "sizes_to": "signs total"},
    "seeking": {"worlds": "signs sayings size", "first_world": "signs sayings size", "least_world": "signs sayings total"},
    "bounds": {"first_with": "signs sayings size part", "can": "signs sayings size part", "must": "signs sayings size part"},
    "names": {"namings": "signs size", "renamed": "world naming", "naming_to": "world other", "least_like": "world",
              "staying": "world"},
    "classes": {"how_many_like": "world", "classes": "signs sayings size"},
    "papers": {"paper": "signs sayings size part"},
    "reader": {"is_paper": "signs sayings size part thing"},
    "following": {"follows": "signs sayings saying total", "basis": "signs sayings total", "parted": "signs one other total"},
    "mending": {"mended": "sayings world cell value", "near_paper": "sayings world cell value many",
                "is_near_paper": "sayings world cell value many thing"},
    "worldtexts": {"write_world": "world", "read_world": "signs text"},
}
CLASSES = {
    ("signs", "Signs"): ("kinds ties functions", {"kinds": "", "ties": "", "functions": ""}),
    ("texts", "Text"): ("signs sayings", {"signs": "", "sayings": ""}),
    ("worlds", "World"): ("signs size part", {"signs": "", "size": "", "part": "", "value": "cell"}),
    ("desk", "Desk"): ("text", {"take": "row"}),
    ("errors", "NoText"): ("row", {}),
    ("errors", "TooMany"): ("many", {}),
}
SIGNS = small_book()
SOME_RED = ("some", "x", "a", ("red", "x"))
SAID = [SOME_RED, ("all", "x", "a", ("not", ("=", "x", ("next", "x"))))]
WORLD = World(SIGNS, [2], {("red", (0,)): 0, ("red", (1,)): 1, ("next", (0,)): 1, ("next", (1,)): 0})
CELL = ("red", (0,))
WRITTEN = "size 2\nred 0 0\nred 1 1\nnext 0 1\nnext 1 0\n"
SHUT = ("cell", CELL, (("broken", 0), ("broken", 0)))
# What each name is asked with, by its arguments' names.
ASKED = {
    "signs": SIGNS, "sayings": SAID, "saying": SOME_RED, "size": [2], "part": {CELL: 1}, "total": 2, "cell": CELL,
    "value": 1, "many": 0, "world": WORLD, "other": WORLD, "naming": [[1, 0]], "one": SAID, "thing": SHUT,
}
ASKED_OTHERWISE = {
    looked_over: {"thing": lists_throughout(SOME_RED)}, read_saying: {"text": "(and)"}, write_text: {"text": Text(SIGNS, SAID)},
    read_text: {"text": "kind a\nsay (and)\n"}, read_world: {"text": WRITTEN}, parted: {"other": []},
    is_paper: {"sayings": [("or",)], "part": {}}, is_near_paper: {"sayings": [("or",)], "cell": ("next", (0,))},
}


def plain(thing):
    """The thing, with all that an object tells in its place."""
    if isinstance(thing, World):
        return ("world", plain(thing.signs()), thing.size(), thing.part())
    if isinstance(thing, Text):
        return ("text", plain(thing.signs()), thing.sayings())
    if isinstance(thing, Signs):
        return ("signs",) + told_of(thing)
    if isinstance(thing, dict):
        return {key: plain(value) for key, value in thing.items()}
    if isinstance(thing, (list, tuple)):
        return thing.__class__([plain(part) for part in thing])
    return thing


class Interface(unittest.TestCase):
    def arguments(self, asked):
        return list(inspect.signature(asked).parameters)

    def test_functions(self):
        for file, names in FUNCTIONS.items():
            for name, arguments in names.items():
                asked = getattr(importlib.import_module("fewthings." + file), name)
                self.assertEqual(self.arguments(asked), arguments.split(), name)

    def test_classes_and_methods(self):
        for (file, name), (arguments, methods) in CLASSES.items():
            made = getattr(importlib.import_module("fewthings." + file), name)
            self.assertEqual(self.arguments(made), arguments.split(), name)
            for method, handed in methods.items():
                self.assertEqual(self.arguments(getattr(made, method)), ["self"] + handed.split(), name)

    def test_by_place_and_by_name(self):
        for file, names in FUNCTIONS.items():
            for name, arguments in names.items():
                asked = getattr(importlib.import_module("fewthings." + file), name)
                handed = {**ASKED, **ASKED_OTHERWISE.get(asked, {})}
                named = {argument: handed[argument] for argument in reversed(arguments.split())}
                placed = [handed[argument] for argument in arguments.split()]
                told = plain(asked(*placed))
                self.assertEqual(plain(asked(**named)), told, name)
                # Asked again the same is told, of lists for tuples, too.
                self.assertEqual(plain(asked(*placed)), told, name)
                self.assertEqual(plain(asked(*[lists_throughout(thing) for thing in placed])), told, name)
                self.assertEqual(plain(asked(*[tuple(thing) if isinstance(thing, list) else thing for thing in placed])),
                                 told, name)

    def test_what_is_made_by_place_and_by_name(self):
        kinds, ties, functions = told_of(SIGNS)
        self.assertEqual(told_of(Signs(functions=functions, ties=ties, kinds=kinds)), told_of(SIGNS))
        self.assertEqual(plain(Text(sayings=SAID, signs=SIGNS)), plain(Text(SIGNS, SAID)))
        self.assertEqual(plain(World(part=WORLD.part(), size=[2], signs=SIGNS)), plain(WORLD))
        self.assertEqual(WORLD.value(cell=CELL), WORLD.value(CELL))
        self.assertEqual(Desk(text=Text(SIGNS, SAID)).take(row="least 2"), Desk(Text(SIGNS, SAID)).take("least 2"))
        self.assertEqual((errors.NoText(row=3).row, errors.TooMany(many=5).many), (3, 5))


class Refusals(unittest.TestCase):
    def test_each_is_none_of_the_others(self):
        many = Signs(["a"], [], [("f", ("a", "a"), "a")])
        found = []
        for error, asked in (
                (errors.NoSigns, lambda: Signs([], [], [])), (errors.NoSaying, lambda: looked_over(SIGNS, ())),
                (errors.NoText, lambda: read_text("")), (errors.NoSize, lambda: cells(SIGNS, [0])),
                (errors.NoPart, lambda: values(SIGNS, [1], ())), (errors.NoWorld, lambda: World(SIGNS, [1], {})),
                (errors.TooMany, lambda: worlds(many, [], [4])), (errors.NoNaming, lambda: renamed(WORLD, [])),
                (errors.NoRow, lambda: Desk(Text(SIGNS, [])).take("")), (errors.NoSaying, lambda: follows(SIGNS, [], (), 0)),
                (errors.NoSize, lambda: basis(SIGNS, [], 17)), (errors.NoPart, lambda: mended([], WORLD, CELL, 2)),
                (errors.NoPart, lambda: is_near_paper([], WORLD, CELL, 2, 0, SHUT)),
                (errors.NoPart, lambda: near_paper([], WORLD, (), 0, 0)),
                (errors.NoPart, lambda: first_with(SIGNS, [], [1], None)), (errors.NoPart, lambda: can(SIGNS, [], [1], None)),
                (errors.NoPart, lambda: must(SIGNS, [], [1], None)), (errors.NoPart, lambda: read_over(SIGNS, [1], (), SAID[0])),
                (errors.NoSaying, lambda: holds(WORLD, ())), (errors.NoSaying, lambda: write_saying(SIGNS, ())),
                (errors.NoSaying, lambda: read_saying(SIGNS, "")), (errors.NoSaying, lambda: parted(SIGNS, [], None, 0)),
                (errors.NoSize, lambda: fillings(SIGNS, [5])), (errors.NoSize, lambda: sizes_to(SIGNS, 17)),
                (errors.NoSize, lambda: namings(SIGNS, [])), (errors.NoSize, lambda: paper(SIGNS, [], [], {})),
                (errors.NoSize, lambda: is_paper(SIGNS, [], [], {}, None)), (errors.TooMany, lambda: classes(many, [], [4])),
                (errors.TooMany, lambda: first_world(many, [], [4])), (errors.TooMany, lambda: least_world(many, [("or",)], 4)),
                (errors.NoWorld, lambda: read_world(SIGNS, ""))):
            with self.assertRaises(errors.FewError) as taken:
                asked()
            self.assertIs(taken.exception.__class__, error)
            self.assertIsInstance(taken.exception, ValueError)
            found.append(error)
        self.assertEqual(len(set(found)), 9)

    def test_what_is_told_of_worlds_is_refused_by_names_alone(self):
        signs = Signs(["a", "b", "c"], [("red", ("a",))], [])
        world = World(signs, [4, 4, 4], dict.fromkeys(cells(signs, [4, 4, 4]), 0))
        for asked in (least_like, staying, how_many_like, lambda handed: naming_to(handed, handed)):
            with self.assertRaises(errors.TooMany) as taken:
                asked(world)
            self.assertEqual(taken.exception.many, 24 ** 3)
        self.assertEqual(read_world(signs, write_world(world)).part(), world.part())


class Promised(unittest.TestCase):
    def test_great_texts_are_read_again(self):
        # Eight sayings of eighty parts each are written in more signs than are promised of texts handed in at first.
        great = ("and",) + tuple([SOME_RED] * 26)
        text = Text(SIGNS, [great] * 8)
        written = write_text(text)
        self.assertGreater(len(written), 2000)
        self.assertEqual(plain(read_text(written)), plain(text))
        self.assertEqual(Desk(text).take("basis 2"), "0")
        self.assertEqual(Desk(text).take("follows 2 " + write_saying(SIGNS, great)), "yes")

    def test_what_comes_with_what(self):
        # What follows comes with papers, what does not with a world; what stays of a basis keeps the worlds as they were.
        word, papers = follows(SIGNS, SAID, SOME_RED, 2)
        self.assertTrue(all(is_paper(SIGNS, SAID + [("not", SOME_RED)], size, {}, told) for size, told in papers.items()))
        word, world = follows(SIGNS, [SOME_RED], SAID[1], 2)
        self.assertEqual([holds(world, saying) for saying in SAID], [True, False])
        kept = [SAID[number] for number in basis(SIGNS, SAID, 2)]
        self.assertIsNone(parted(SIGNS, kept, SAID, 2))
        for cell, told in can(SIGNS, SAID, [2], {}).items():
            for value in values(SIGNS, [2], cell):
                shut = paper(SIGNS, SAID, [2], {cell: value})
                self.assertEqual(shut is None, value in told)
                self.assertEqual(mended(SAID, WORLD, cell, value) is None, value not in told)
        least = [world for world, many in classes(SIGNS, SAID, [2])]
        for world in worlds(SIGNS, SAID, [2]):
            fine = [one for one in least if naming_to(world, one) is not None]
            self.assertEqual([one.part() for one in fine], [least_like(world).part()])


class Readme(unittest.TestCase):
    def test_what_it_tells_is_so(self):
        source = README.read_text("utf-8").split("```python\n")[1].split("```")[0]
        rows = source.split("\n")
        known, told = {}, 0
        for node in ast.parse(source).body:
            part = ast.get_source_segment(source, node)
            if not isinstance(node, ast.Expr):
                exec(part, known)
                continue
            value = eval(part, known)
            remark = rows[node.end_lineno - 1][node.end_col_offset:].strip().lstrip("# ")
            try:
                wanted = ast.literal_eval(remark)
            except SyntaxError:
                continue
            self.assertEqual(value, wanted, part)
            told += 1
        self.assertGreater(told, 20)


if __name__ == "__main__":
    unittest.main()
