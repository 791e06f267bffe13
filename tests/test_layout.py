"""The interface's names and arguments, and such rules of the language as are plain to see."""

import ast
import importlib
import inspect
import pathlib
import unittest

INTERFACE = {
    "trees": {
        "is_ranking": "value", "is_tree": "ranking value", "tree_of": "ranking content",
        "content_of": "ranking tree", "least_ranking": "ranking", "way": "ranking tree key",
        "above": "ranking content key", "below": "ranking content key",
        "top_between": "ranking content key other_key", "put_in": "ranking tree key",
        "taken_out": "ranking tree key", "is_search_tree": "value", "tree_text": "search_tree",
        "tree_told": "text",
    },
    "reach": {
        "part_of": "ranking tree key", "parts_of": "ranking tree", "behind": "ranking tree key",
        "reach": "ranking tree key", "longest_way": "ranking content",
    },
    "parted": {
        "parted": "ranking tree key", "joined": "ranking tree other_tree", "either_tree": "ranking tree other_tree",
        "common_tree": "ranking tree other_tree", "less_tree": "ranking tree other_tree",
        "unlike_tree": "ranking tree other_tree", "opened": "ranking tree other_tree",
        "fresh": "ranking tree other_tree", "opened_bounds": "keys other_keys",
        "opening_ranking": "keys other_keys number",
    },
    "shapes": {
        "all_trees": "keys", "is_rank_order": "search_tree value", "rank_orders": "search_tree",
        "rank_order_at": "search_tree number", "rank_order_index": "search_tree order", "told_above": "trees",
        "ring_of": "trees", "orders_told": "trees", "order_told": "trees number", "surely_above": "trees",
        "common_ranking": "trees", "told_tree": "trees keys", "trees_left": "trees keys",
        "tells_all": "ranking contents", "fewest_contents": "ranking", "telling_contents": "ranking",
    },
    "pages": {
        "height": "levels content", "page_of": "levels content", "is_page": "levels value",
        "page_keys": "levels page", "page_lists": "levels content", "path_to": "levels content key",
        "page_put": "levels page key", "page_out": "levels page key", "page_changes": "levels content key",
        "cut": "ranking content size", "is_cut": "ranking size value", "cut_changes": "ranking content key size",
    },
    "looks": {
        "is_store": "ranking value", "differing": "ranking store other_store",
        "look_run": "ranking store other_store", "look_count": "ranking store other_store",
        "parting": "ranking store other_store", "most_parting": "ranking count", "hardest": "ranking count",
    },
    "plans": {
        "all_views": "count", "part_views": "ranking", "answers": "count most views lot", "lots_left": "count most told",
        "unparted": "count most views", "fewest_left": "count most views told", "fewest_looks": "count most views",
        "best_look": "count most views told", "is_plan": "count most views value",
        "plan_depth": "count most views plan", "best_plan": "count most views",
        "led_by": "count most views plan lot", "is_witness": "count most views lot value",
        "fewest_witness": "count most views lot", "some_witness": "count most views lot",
    },
    "page_looks": {
        "page_stretches": "levels", "inner_stretches": "levels page_stretch",
        "page_differing": "levels store other_store", "page_walk": "levels store other_store",
        "walk_of": "levels lot", "is_page_walk": "levels value", "walk_lot": "levels walk", "look_counts": "levels",
        "most_looks": "levels count", "most_lot": "levels count", "worst_stores": "levels count",
        "least_looks": "number", "best_levels": "number",
    },
    "editions": {
        "is_plain_store": "value", "fate": "base one other key", "clash_keys": "base one other",
        "put_as_one": "base one other", "settled": "base one other choices", "put_all": "base several",
    },
    "edition_trees": {
        "opened_keys": "ranking base one other", "least_openings": "base one other", "best_ranking": "base one other",
        "is_edition_paper": "base one other value", "shortest_paper": "base one other",
        "fewest_entries": "base one other", "paper_store": "base one other paper",
    },
    "ancestors": {
        "is_editions": "value", "elders": "editions edition", "nearest": "editions edition other_edition",
        "base_of": "editions edition other_edition", "sequences": "editions",
        "joined_store": "editions edition other_edition", "grown": "editions edition other_edition",
        "tellers": "editions edition key",
    },
    "live": {"replay": "ranking store deeds bound"},
    "paper_texts": {
        "ranking_text": "ranking", "store_text": "store", "ranking_told": "text", "store_told": "text",
        "is_paper": "value", "paper_text": "value", "paper_told": "text",
    },
}

# Of each class the parameters of its methods, those that are made with included.
CLASSES = {
    "live": {
        "Live": {
            "__init__": "ranking store", "put": "key worth", "take": "key", "cut": "key other_key",
            "take_in": "other_store", "tree": "", "way": "key", "height": "", "changed": "", "moments": "",
            "would": "deed", "undo": "", "begin": "", "keep": "", "drop": "", "twin": "", "__eq__": "other",
            "__ne__": "other",
        },
        "LowLive": {"__init__": "ranking store bound", "twin": "", "__eq__": "other", "__ne__": "other"},
    },
    "console": {"Console": {"__init__": "", "execute": "command"}},
}

PACKAGE = pathlib.Path(__file__).resolve().parent.parent / "oneshape"


class Layout(unittest.TestCase):
    def setUp(self):
        self.files = {path.name: path.read_bytes() for path in sorted(PACKAGE.glob("*.py"))}
        self.trees = {name: ast.parse(text) for name, text in self.files.items()}

    def test_the_interface_is_there(self):
        for file, functions in INTERFACE.items():
            module = importlib.import_module("oneshape." + file)
            defined = {node.name for node in self.trees[file + ".py"].body if isinstance(node, ast.FunctionDef)}
            for name, arguments in functions.items():
                self.assertIn(name, defined)
                self.assertEqual(getattr(module, name).__module__, "oneshape." + file)
                self.assertEqual(list(inspect.signature(getattr(module, name)).parameters), arguments.split())

    def test_the_classes_are_there_with_their_own_methods(self):
        for file, classes in CLASSES.items():
            module = importlib.import_module("oneshape." + file)
            defined = {node.name: node for node in self.trees[file + ".py"].body if isinstance(node, ast.ClassDef)}
            for name, methods in classes.items():
                held = getattr(module, name)
                self.assertEqual(held.__module__, "oneshape." + file)
                own = {node.name for node in defined[name].body if isinstance(node, ast.FunctionDef)}
                for method, arguments in methods.items():
                    self.assertIn(method, own, name)
                    found = list(inspect.signature(getattr(held, method)).parameters)
                    self.assertEqual(found, ["self"] + arguments.split(), (name, method))

    def test_the_bound_of_replay_is_passed_by_its_name(self):
        bound = inspect.signature(importlib.import_module("oneshape.live").replay).parameters["bound"]
        self.assertIs(bound.kind, inspect.Parameter.KEYWORD_ONLY)
        self.assertIsNone(bound.default)

    def test_the_folder_holds_nothing_else(self):
        found = {path.name for path in PACKAGE.iterdir()} - {"__pycache__"}
        self.assertEqual(found, set(self.files))
        self.assertIn("__init__.py", found)

    def test_sizes_and_characters(self):
        for name, text in self.files.items():
            self.assertTrue(all(byte == 10 or 32 <= byte < 127 for byte in text), name)
            lines = text.decode("ascii").splitlines()
            self.assertLessEqual(len(lines), 399, name)
            self.assertLessEqual(max(map(len, lines), default=0), 120, name)
            for node in ast.walk(self.trees[name]):
                if isinstance(node, ast.FunctionDef):
                    self.assertLessEqual(node.end_lineno - node.lineno + 1, 40, (name, node.name))

    def test_modules_hold_only_what_may_stand_there(self):
        allowed = (ast.ImportFrom, ast.FunctionDef, ast.ClassDef, ast.Assign)
        for name, tree in self.trees.items():
            for node in tree.body[1:]:
                self.assertIsInstance(node, allowed, name)
            self.assertTrue(ast.get_docstring(tree), name)

    def test_imports_are_of_the_package_and_lead_in_no_ring(self):
        imported = {}
        for name, tree in self.trees.items():
            sources = [node.module for node in ast.walk(tree) if isinstance(node, ast.ImportFrom)]
            self.assertFalse([node for node in ast.walk(tree) if isinstance(node, ast.Import)], name)
            for source in sources:
                self.assertRegex(source, "^oneshape[.][a-z_]+$")
            imported[name] = {source.split(".")[1] + ".py" for source in sources}
        while imported:
            free = [name for name, sources in imported.items() if not sources & set(imported)]
            self.assertTrue(free, imported)
            for name in free:
                del imported[name]

    def test_no_word_stands_there_that_may_not(self):
        barred = {"open", "input", "eval", "exec", "chr", "float", "globals", "locals", "vars", "dir", "id", "hash"}
        for name, tree in self.trees.items():
            for node in ast.walk(tree):
                self.assertNotIsInstance(node, (ast.AsyncFunctionDef, ast.Div), name)
                if isinstance(node, ast.Name):
                    self.assertNotIn(node.id, barred, name)
            for node in tree.body:
                if isinstance(node, (ast.FunctionDef, ast.ClassDef)):
                    self.assertEqual(node.decorator_list, [], name)


if __name__ == "__main__":
    unittest.main()
