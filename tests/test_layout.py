"""The interface stands where the document lists it; the files keep to the plain rules of the language."""

import ast
import importlib
import inspect
import unittest
from pathlib import Path

# What of Python's own library the language lets; test_language.py looks at the names.
LIBRARY = ("heapq", "math", "itertools", "collections")
PACKAGE = Path(__file__).resolve().parent.parent / "tiewheel"

INTERFACE = {
    "webs.errors": [
        "WebError", "NoWeb", "NoMating", "NoPainting", "NoEnds", "NoFlips", "NoLabels", "NoDeeds", "NoWheel", "NoJoin",
        "NoShape", "NoLine", "TooFar", "NoText(at)", "NoHand(hand)", "NoNumber(number)", "TooWide(most)",
        "Loud(cluster)", "NoBack(many)",
    ],
    "webs.webs": ["is_web(thing)", "across(web, hand)", "way_of(web, hand)", "ends_of(web)", "ways_at(web, post)"],
    "webs.parts": ["parts_of(web)", "part_web(web, number)", "part_ways(web, number)"],
    "matings.matings": [
        "is_mating(web, thing)", "mate(web, mating, hand)", "corners_of(web, mating)", "third(web, mating, other)",
    ],
    "matings.strands": [
        "strands_of(web, mating)", "is_cell(web, mating, number)", "strand_at(web, mating, hand)",
        "over(web, mating, hand)", "shows_strand(web, mating, thing)",
    ],
    "paintings.paintings": [
        "is_painting(web, thing)", "bared(web, painting)", "own_mating(web, painting)",
        "is_painted(web, painting, hand)", "painted_ends(web, painting)", "owned(web, mating)",
        "shows_owned(web, mating, thing)",
    ],
    "paintings.rounds": ["painted_by_couples(web, couples)"],
    "paintings.fronts": [
        "many_paintings(web, *, ends=None)", "painting_at(web, number, *, ends=None)",
        "painting_number(web, painting, *, ends=None)", "all_paintings(web, *, ends=None)",
        "painting_or_fronts(web, *, ends=None)", "shows_fronts(web, thing, *, ends=None)",
    ],
    "lines.lines": [
        "lines_of(web, painting)", "line_at(web, painting, hand)", "ways_along(web, painting, number)",
        "is_ring(web, painting, number)", "shows_line(web, painting, thing)",
        "rings_of(web, painting, *, kind='both')",
    ],
    "lines.ties": [
        "tied(web, painting, hand)", "ties_of(web, painting, *, kind='both')", "tie_at(web, painting, hand)",
    ],
    "clusters.crossed": [
        "crossed(web, painting, mating)", "crossed_corners(web, painting, mating, number)",
        "is_loud(web, painting, mating, number)",
    ],
    "clusters.clusters": [
        "clusters(web, painting, mating)", "cluster_at(web, painting, mating, number)",
        "chain(web, painting, mating, one, other)", "shows_chain(web, painting, mating, one, other, thing)",
    ],
    "clusters.flips": [
        "is_flips(web, painting, mating, thing)", "flipped(web, painting, mating, flips)",
        "flips_to(web, painting, mating, other)", "turned(web, painting, mating)", "is_still(web, painting, mating)",
    ],
    "heirs.tracks": ["track_of(web, painting, mating, number)"],
    "heirs.deeds": ["is_deed(web, painting, thing)", "behind(web, painting, deed)", "keeps(web, painting, deed)"],
    "heirs.heirs": ["heirs(web, painting, deed)", "gone(web, painting, deed)"],
    "heirs.kept": [
        "kept(web, painting, other, mating, *, exchanged=False)",
        "shows_kept(web, painting, other, mating, thing, *, exchanged=False)",
    ],
    "products.perms": ["is_perm(thing)", "unit(size)", "then(one, other)", "inverse(one)", "cycles(one)"],
    "products.labels": [
        "is_labels(web, thing)", "along(web, labels, hand)", "strand_product(web, mating, labels, number)",
        "line_product(web, painting, labels, number)", "bar_of(web, mating, labels)", "closed(web, mating, labels)",
        "pinned(web, perms)",
    ],
    "products.carried": ["over_product(web, mating, labels, hand)", "carried(web, painting, labels, deed)"],
    "products.weights": [
        "is_weights(web, thing)", "strand_sum(web, mating, weights, number)", "do_cancel(web, matings, weights)",
        "base_of(web, matings)", "shows_base(web, matings, thing)",
    ],
    "two.two": [
        "unlike_ways(web, painting, other)", "leads(web, painting, other, mating)", "fits(web, painting, other, mating)",
        "is_amid(web, painting, other, thing)", "unlike_ends(web, painting, other, mating)",
    ],
    "two.bridge": [
        "bridge(web, painting, other)", "least_fit(web, painting, other)",
        "one_by_one(web, painting, other, *, mating=None)", "between(web, painting, other, *, mating=None)",
        "shows_bridge(web, painting, other, thing)",
    ],
    "led.steps": [
        "steps_of(web, means, painting, *, flips=True)", "kin_of(web, means, painting, *, flips=True, most=60)",
    ],
    "led.led": [
        "led_to(web, means, painting, other, *, flips=True, most=60)",
        "fewest(web, means, painting, other, *, flips=True, most=60)",
        "shows_led(web, means, painting, other, thing, *, flips=True)",
    ],
    "led.along": [
        "are_deeds(web, painting, thing)", "done(web, painting, deeds)", "all_keep(web, painting, deeds)",
        "heirs_along(web, painting, deeds)", "gone_along(web, painting, deeds)",
    ],
    "wheels.wheels": [
        "barred_by(web, first, second)", "is_wheel(web, first, second)", "rims_of(web, first, second)",
        "place_of(web, first, second, hand)", "end_behind(web, first, second, hand, turns, *, begin=0)",
        "is_by_turns(web, first, second, painting)", "by_turns(web, first, second, *, painted=())",
    ],
    "wheels.far": [
        "ties_behind(web, first, second, painting, turns, *, begin=0)",
        "tied_behind(web, first, second, painting, hand, turns, *, begin=0)",
        "products_behind(web, first, second, painting, labels, turns, *, begin=0)",
        "beats_of(web, first, second, painting)",
    ],
    "wheels.again": [
        "round_of(web, first, second, painting, *, most=1000)",
        "painting_behind(web, first, second, painting, turns, *, begin=0, most=1000)",
    ],
    "counts.tables": [
        "account_of(web, painting)", "table_of(web, *, ends=None)", "many_with(web, painted, bare, *, ends=None)",
        "table_over(web, mating, table)",
    ],
    "counts.near": [
        "many_near(web, painting, mating)", "near_of(web, painting, mating)", "near_at(web, painting, mating, number)",
        "near_number(web, painting, mating, other)",
    ],
    "joins.joins": [
        "beside(one, other)", "is_pairs(web, thing)", "sewn(web, pairs)", "opened(web, ways)", "joined(one, other, joints)",
        "sewn_painting(web, painting, pairs)", "opened_painting(web, painting, ways)", "sewn_labels(web, labels, pairs)",
        "opened_labels(web, labels, ways)",
    ],
    "joins.laid": [
        "laid(web, mating, pairs)", "shows_laid(web, mating, pairs, thing)", "rings_made(web, painting, pairs)",
        "tied_through(web, painting, pairs, end)", "changed(web, painting, mating, pairs)",
    ],
    "made.shapes": [
        "is_shape(thing)", "made_web(shape)", "made_matings(shape)", "made_painting(shape)",
        "made_labels(shape, *, size, across, down)",
    ],
    "keeper.keeper": ["Keeper(web, painting, *, labels=None)"],
    "words.texts": [
        "web_text(web)", "read_web(text)", "painting_text(web, painting)", "read_painting(web, text)",
        "mating_text(web, mating)", "read_mating(web, text)", "labels_text(web, labels)", "read_labels(web, text)",
        "line_text(web, painting, number)", "deeds_text(web, painting, deeds)", "read_deeds(web, painting, text)",
    ],
    "words.desk": ["Desk()"],
}
# The methods of each class, in its own body.
METHODS = {
    "keeper.keeper": ("Keeper", [
        "turn(self, mating)", "flip(self, mating, flips)", "bare(self)", "do(self, deed)", "do_all(self, deeds)",
        "rows_tried(self)", "back(self, *, many=1)", "again(self, *, many=1)", "first(self)", "now(self)", "log(self)",
        "stood(self, count)", "heir(self, number)", "first_of(self, number)", "heirs_now(self)", "gone_now(self)",
        "carried_now(self, number)", "twin(self)", "__len__(self)", "__eq__(self, other)", "__str__(self)",
    ]),
    "words.desk": ("Desk", [
        "say(self, line)", "say_all(self, lines)", "web_now(self)", "keeper_now(self)", "counts(self)", "__len__(self)",
        "__eq__(self, other)",
    ]),
}
VALUES = {
    "webs.webs": {"MOST_POSTS": 60, "HANDS": 4}, "matings.matings": {"MATINGS": 3},
    "paintings.fronts": {"MOST_STATES": 4000, "MOST_TOLD": 400}, "lines.lines": {"BOTH": "both"},
    "products.perms": {"MOST_SIZE": 5}, "led.steps": {"MOST_MEANS": 4, "MOST_KIN": 60},
    "led.along": {"MOST_ROW": 60}, "wheels.wheels": {"MOST_CELL": 4, "MOST_BORDER": 3, "MOST_FAR": 10 ** 30},
    "wheels.again": {"MOST_BEATS": 1000}, "counts.tables": {"MOST_HALVES": 4000},
    "counts.near": {"MOST_NEAR": 400}, "made.shapes": {"SHAPES": ("band", "board", "fan", "klein", "torus", "tube")},
}


class TestInterface(unittest.TestCase):
    def test_all_stands_in_its_file_with_its_arguments(self):
        for name, told in INTERFACE.items():
            module = importlib.import_module("tiewheel." + name)
            for text in told:
                word = text.partition("(")[0]
                thing = getattr(module, word)
                self.assertEqual(thing.__module__, "tiewheel." + name)
                self.assertEqual(thing.__name__, word)
                if "(" in text:
                    self.assertEqual(word + str(inspect.signature(thing)), text)

    def test_all_is_defined_in_its_file_itself(self):
        for name, told in INTERFACE.items():
            path = PACKAGE / (name.replace(".", "/") + ".py")
            body = ast.parse(path.read_text(encoding="utf-8")).body
            defined = [node.name for node in body if isinstance(node, (ast.FunctionDef, ast.ClassDef))]
            for text in told:
                self.assertEqual(defined.count(text.partition("(")[0]), 1, text)

    def test_methods_stand_in_their_classes(self):
        for name, (word, told) in METHODS.items():
            thing = getattr(importlib.import_module("tiewheel." + name), word)
            for text in told:
                method = vars(thing)[text.partition("(")[0]]
                self.assertEqual(method.__name__ + str(inspect.signature(method)), text)

    def test_values(self):
        for name, told in VALUES.items():
            module = importlib.import_module("tiewheel." + name)
            for word, worth in told.items():
                self.assertEqual(repr(getattr(module, word)), repr(worth))


class TestFiles(unittest.TestCase):
    def files(self):
        found = [path for path in PACKAGE.rglob("*") if "__pycache__" not in path.parts]
        self.assertTrue(all(path.is_dir() or path.suffix == ".py" for path in found))
        return [path for path in found if path.is_file()]

    def test_sizes_and_characters(self):
        for path in self.files():
            text = path.read_text(encoding="utf-8")
            rows = text.splitlines()
            self.assertLess(len(rows), 400, path)
            self.assertTrue(all(len(row) <= 120 for row in rows), path)
            self.assertTrue(all(sign == "\n" or " " <= sign <= "~" for sign in text), path)
            for node in ast.walk(ast.parse(text)):
                if isinstance(node, ast.FunctionDef):
                    self.assertLessEqual(node.end_lineno - node.lineno + 1, 40, (path, node.name))

    def test_each_folder_has_an_init(self):
        for folder in {path.parent for path in self.files()}:
            self.assertTrue((folder / "__init__.py").is_file(), folder)

    def test_imports_are_of_the_package_by_full_names(self):
        for path in self.files():
            for node in ast.walk(ast.parse(path.read_text(encoding="utf-8"))):
                self.assertNotIsInstance(node, ast.Import)
                if isinstance(node, ast.ImportFrom):
                    self.assertEqual(node.level, 0)
                    if node.module not in LIBRARY:
                        self.assertTrue(node.module.startswith("tiewheel."), (path, node.module))
                        self.assertTrue((PACKAGE.parent / (node.module.replace(".", "/") + ".py")).is_file())

    def test_no_file_keeps_anything_that_can_change(self):
        for path in self.files():
            for node in ast.parse(path.read_text(encoding="utf-8")).body:
                kinds = (ast.Expr, ast.ImportFrom, ast.FunctionDef, ast.ClassDef, ast.Assign)
                self.assertIsInstance(node, kinds, path)
                if isinstance(node, ast.Assign) and not isinstance(node.value, ast.Dict):
                    self.assertIsInstance(ast.literal_eval(self.computed(node.value)), (int, str, tuple), path)

    def test_tables_of_files_are_only_read(self):
        for path in self.files():
            tree = ast.parse(path.read_text(encoding="utf-8"))
            tables = {node.targets[0].id for node in tree.body if isinstance(node, ast.Assign) and isinstance(node.value, ast.Dict)}
            functions = {node.name for node in tree.body if isinstance(node, ast.FunctionDef)}
            for node in ast.walk(tree):
                for child in ast.iter_child_nodes(node):
                    if isinstance(child, ast.Name) and child.id in tables and isinstance(child.ctx, ast.Load):
                        self.assertIsInstance(node, (ast.Subscript, ast.Attribute, ast.Compare), (path, child.lineno))
                        self.assertIsInstance(getattr(node, "ctx", ast.Load()), ast.Load)
                        self.assertIn(getattr(node, "attr", "get"), ("get",))
                if isinstance(node, ast.Assign) and isinstance(node.value, ast.Dict) and node.targets[0].id in tables:
                    for value in node.value.values:
                        self.assertTrue(isinstance(value, ast.Constant) or value.id in functions, path)

    def computed(self, node):
        """A power of two numbers as the number that it is."""
        if isinstance(node, ast.BinOp) and isinstance(node.op, ast.Pow):
            return ast.Constant(node.left.value ** node.right.value)
        return node


if __name__ == "__main__":
    unittest.main()
