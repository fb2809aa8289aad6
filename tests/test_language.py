"""What a program can see of LANGUAGE.md, and the interface of DOC.md."""

import ast
import builtins
import importlib
import inspect
import pathlib
import unittest

FOLDER = pathlib.Path(__file__).resolve().parent.parent / "squeezedkeyer"
FILES = sorted(FOLDER.glob("*.py"))

# Python's interactive console, and so doctest, keeps its last answer as `_` there.
BUILTINS = [name for name in dir(builtins) if name != "_"]

INTERFACE = {
    "rules": {
        "is_rules": ["value"], "period": ["rules", "kind"], "exchanged": ["rules"], "multiplied": ["rules", "by"],
        "plain": ["rules"], "are_alike": ["one", "other"],
    },
    "records": {
        "is_record": ["value"], "is_down": ["record", "lever", "tick"], "down_stretches": ["record", "lever"],
        "shifted": ["record", "by"], "multiplied": ["record", "by"], "exchanged": ["record"],
        "joined": ["one", "other"], "moved": ["record", "index", "tick"],
    },
    "marks": {
        "runs_of": ["rules", "record"], "kinds_of": ["rules", "record"], "count_marks": ["rules", "record"],
        "idle_from": ["rules", "record"], "nth_mark": ["rules", "record", "index"],
        "mark_at": ["rules", "record", "tick"], "count_begun": ["rules", "record", "tick"],
    },
    "steps": {
        "steps": ["rules", "record"], "count_steps": ["rules", "record"], "count_word": ["rules", "record", "word"],
    },
    "live": {"Keyer": ["rules"]},
    "letters": {
        "is_code": ["value"], "read_runs": ["rules", "code", "gaps", "runs"],
        "read": ["rules", "code", "gaps", "record"], "broken": ["code", "letter"],
        "joined_letter": ["code", "text"], "next_letters": ["code", "word"],
    },
    "sending": {
        "fewest_events": ["rules", "kinds", "slack"], "greatest_slack": ["rules", "kinds", "events"],
        "trade": ["rules", "kinds"], "send": ["rules", "kinds", "slack"],
        "fewest_for_text": ["rules", "code", "gaps", "text", "slack"],
        "send_text": ["rules", "code", "gaps", "text", "slack"],
    },
    "steady": {
        "slack": ["rules", "record"], "steadier": ["rules", "record"], "upset": ["rules", "record"],
        "shows_upset": ["rules", "record", "value"],
    },
    "parting": {
        "parting_record": ["one", "other"], "fewest_parting": ["one", "other"],
        "shows_parting": ["one", "other", "value"],
    },
    "heard": {
        "is_possible": ["rules", "runs", "slack"], "fewest_for_runs": ["rules", "runs", "slack"],
        "record_for": ["rules", "runs", "slack"], "fewest_down_at": ["rules", "runs", "slack", "lever", "tick"],
        "rules_for": ["s", "l", "pause", "runs", "slack", "events"],
    },
    "windows": {
        "windows": ["rules", "record", "index"], "windows_for": ["rules", "record", "index", "kinds"],
    },
    "fits": {
        "fitting": ["rules", "name", "cases"], "least_fit": ["rules", "name", "cases"],
        "greatest_fit": ["rules", "name", "cases"],
    },
    "texts": {
        "format_rules": ["rules"], "parse_rules": ["text"], "format_record": ["record"], "parse_record": ["text"],
        "format_runs": ["runs"],
    },
    "console": {"Console": []},
}

CLASSES = {
    "live": {
        "Keyer": {
            "press": ["self", "lever", "tick"], "release": ["self", "lever", "tick"], "wait": ["self", "tick"],
            "undo": ["self"], "would_be": ["self"], "fork": ["self"], "__eq__": ["self", "other"],
            "tick": None, "runs": None, "is_idle": None, "down": None, "remembered": None, "next_decision": None,
            "log": None,
        },
    },
    "console": {"Console": {"execute": ["self", "command"]}},
}

FROM_THE_LIBRARY = [("collections", ["deque"])]

NOT_ALLOWED = (
    ast.AsyncFunctionDef, ast.AsyncFor, ast.AsyncWith, ast.Await, ast.Import, ast.Div,
)


def bound_names(tree):
    """All names that a file gives a meaning, those of attributes left out."""
    for node in ast.walk(tree):
        if isinstance(node, (ast.FunctionDef, ast.ClassDef)):
            yield node.name
        elif isinstance(node, ast.arg):
            yield node.arg
        elif isinstance(node, ast.Name) and isinstance(node.ctx, ast.Store):
            yield node.id
        elif isinstance(node, ast.alias):
            yield node.asname or node.name


class LanguageTest(unittest.TestCase):
    def test_the_folder_holds_nothing_but_files_of_the_package(self):
        found = [path for path in FOLDER.iterdir() if path.name != "__pycache__"]
        self.assertEqual(sorted(found), FILES)
        self.assertIn(FOLDER / "__init__.py", FILES)

    def test_sizes_and_signs(self):
        for path in FILES:
            lines = path.read_text(encoding="utf-8").split("\n")
            with self.subTest(file=path.name):
                self.assertLess(len(lines), 400)
                self.assertLessEqual(max(map(len, lines)), 120)
                self.assertEqual([line for line in lines if any(not " " <= sign <= "~" for sign in line)], [])

    def test_functions_are_short(self):
        for path in FILES:
            for node in ast.walk(ast.parse(path.read_text())):
                if isinstance(node, ast.FunctionDef):
                    with self.subTest(file=path.name, function=node.name):
                        self.assertLessEqual(node.end_lineno - node.lineno + 1, 40)

    def test_imports_are_those_of_the_package(self):
        for path in FILES:
            for node in ast.walk(ast.parse(path.read_text())):
                self.assertNotIsInstance(node, NOT_ALLOWED)
                if isinstance(node, ast.ImportFrom):
                    with self.subTest(file=path.name, line=node.lineno):
                        self.assertEqual(node.level, 0)
                        if (node.module, [alias.name for alias in node.names]) in FROM_THE_LIBRARY:
                            continue
                        self.assertTrue(node.module.startswith("squeezedkeyer."))
                        source = ast.parse((FOLDER / (node.module.split(".")[1] + ".py")).read_text())
                        for alias in node.names:
                            self.assertIn(alias.name, list(bound_names(source)))

    def test_no_import_or_class_gets_another_meaning(self):
        for path in FILES:
            tree = ast.parse(path.read_text())
            taken = [name for node in tree.body if isinstance(node, (ast.ImportFrom, ast.ClassDef))
                     for name in bound_names(node) if isinstance(node, ast.ImportFrom) or name == node.name]
            inside = [name for node in tree.body if isinstance(node, (ast.FunctionDef, ast.ClassDef))
                      for name in bound_names(node) if name != node.name]
            with self.subTest(file=path.name):
                self.assertEqual(len(taken), len(set(taken)))
                self.assertEqual(sorted(set(taken) & set(inside)), [])

    def test_no_name_of_a_builtin_gets_another_meaning(self):
        for path in FILES:
            for name in bound_names(ast.parse(path.read_text())):
                with self.subTest(file=path.name, name=name):
                    self.assertNotIn(name, BUILTINS)


class InterfaceTest(unittest.TestCase):
    def test_functions_stand_in_their_files_with_their_parameters(self):
        for file, functions in INTERFACE.items():
            module = importlib.import_module(f"squeezedkeyer.{file}")
            for name, parameters in functions.items():
                with self.subTest(file=file, name=name):
                    found = getattr(module, name)
                    self.assertEqual(found.__module__, module.__name__)
                    self.assertEqual(list(inspect.signature(found).parameters), parameters)

    def test_methods_and_properties_stand_in_their_classes(self):
        for file, classes in CLASSES.items():
            module = importlib.import_module(f"squeezedkeyer.{file}")
            for name, members in classes.items():
                for member, parameters in members.items():
                    with self.subTest(file=file, name=name, member=member):
                        found = vars(getattr(module, name))[member]
                        if parameters is None:
                            self.assertIsInstance(found, property)
                        else:
                            self.assertEqual(list(inspect.signature(found).parameters), parameters)


if __name__ == "__main__":
    unittest.main()
