"""Everything that the interface lists stands in its file, and the files keep the sizes that the language allows."""

import ast
import pathlib
import unittest

FOLDER = pathlib.Path(__file__).parent.parent / "nextcode"

FUNCTIONS = {
    "errors": {},
    "trees": {"is_told": ["value"], "all_items": ["tree"], "height": ["tree"], "root_of": ["tree"], "links": ["tree"],
              "of_items": ["items"]},
    "codes": {},
    "play": {"play": ["code", "tree", "handed"]},
    "verdicts": {"keeps": ["code", "promise"], "kept": ["code"], "least_case": ["code", "promise"]},
    "uses": {"used_lines": ["code"], "used_sides": ["code"], "case_for_line": ["code", "line"],
             "case_for_side": ["code", "line", "side"], "all_stations": ["code"],
             "case_for_station": ["code", "station"]},
    "costs": {"most": ["code", "n"]},
    "walks": {"together": ["taker", "goer", "finder"], "bad_walk": ["taker", "goer", "finder"]},
    "stores": {},
}
CLASSES = {
    "errors": {name: ["__init__"] for name in (
        "BadKind", "BadUps", "BadLine", "Refused", "BadTree", "BadHanded", "BadPromise", "NoLine", "BadSize", "OtherUps",
        "BadName", "NoDeed", "NoWalker", "NothingToUndo", "TooMany")},
    "trees": {},
    "codes": {"Code": ["__init__", "__len__", "__getitem__", "__eq__"]},
    "play": {"Play": ["links", "held", "told", "lines", "sides", "stations"]},
    "stores": {"Store": ["__init__", "do", "present", "numbered", "__len__", "walk", "walker", "go_on", "undo",
                         "undoable"]},
}
METHODS = {"do": ["self", "name", "handed"], "walk": ["self", "name", "node"], "walker": ["self", "name"],
           "go_on": ["self", "name", "deed", "other"], "__init__": ["self", "ups", "codes", "tree"],
           "present": ["self"], "numbered": ["self"], "undo": ["self"], "undoable": ["self"]}


def parsed(path):
    return ast.parse(path.read_text())


class Interface(unittest.TestCase):
    def test_functions_stand_in_their_files(self):
        for name, functions in FUNCTIONS.items():
            body = parsed(FOLDER / f"{name}.py").body
            here = {node.name: [arg.arg for arg in node.args.args] for node in body if isinstance(node, ast.FunctionDef)}
            for function, arguments in functions.items():
                self.assertEqual(here.get(function), arguments)

    def test_classes_stand_in_their_files_with_their_methods(self):
        for name, classes in CLASSES.items():
            body = parsed(FOLDER / f"{name}.py").body
            here = {node.name: [part.name for part in node.body if isinstance(part, ast.FunctionDef)]
                    for node in body if isinstance(node, ast.ClassDef)}
            for one, methods in classes.items():
                self.assertLessEqual(set(methods), set(here.get(one, [])), one)

    def test_the_methods_of_stores_take_what_is_listed(self):
        for node in ast.walk(parsed(FOLDER / "stores.py")):
            if isinstance(node, ast.FunctionDef) and node.name in METHODS:
                self.assertEqual([arg.arg for arg in node.args.args], METHODS[node.name])

    def test_the_folder_holds_python_files_alone(self):
        names = [path.name for path in FOLDER.iterdir() if path.name != "__pycache__"]
        self.assertIn("__init__.py", names)
        self.assertTrue(all(name.endswith(".py") for name in names), names)


class Language(unittest.TestCase):
    def test_sizes(self):
        for path in FOLDER.glob("*.py"):
            text = path.read_text()
            self.assertTrue(text.isascii() and "\t" not in text and "\r" not in text, path)
            lines = text.split("\n")
            self.assertLess(len(lines), 400, path)
            self.assertLessEqual(max(len(line) for line in lines), 120, path)
            for node in ast.walk(ast.parse(text)):
                if isinstance(node, ast.FunctionDef):
                    self.assertLessEqual(node.end_lineno - node.lineno + 1, 40, (path, node.name))

    def test_imports_are_from_the_package_alone(self):
        for path in FOLDER.glob("*.py"):
            for node in ast.walk(parsed(path)):
                self.assertNotIsInstance(node, ast.Import, path)
                if isinstance(node, ast.ImportFrom):
                    self.assertTrue(node.level == 0 and node.module.startswith("nextcode."), path)
