"""The rules of the language that can be read off the text of the package."""

import ast
import pathlib
import unittest

PACKAGE = pathlib.Path(__file__).resolve().parent.parent / "piledoors"
BUILTINS = set("len range enumerate zip min max sum abs sorted reversed int str bool list tuple dict set isinstance ord "
               "repr any all divmod".split())
ERRORS = set("ValueError KeyError IndexError LookupError ArithmeticError OverflowError RuntimeError".split())
METHODS = set("append clear copy count endswith extend find get index insert items join keys pop remove setdefault split "
              "startswith update values".split())
# A smaller language than the rules allow, so that it is easy to check.
NODES = (ast.Module, ast.Expr, ast.Constant, ast.ImportFrom, ast.alias, ast.FunctionDef, ast.ClassDef, ast.arguments,
         ast.arg, ast.Assign, ast.Name, ast.Load, ast.Store, ast.Return, ast.If, ast.For, ast.While, ast.Break,
         ast.Continue, ast.Raise, ast.Call, ast.keyword, ast.Attribute, ast.Subscript, ast.Slice, ast.Tuple, ast.List,
         ast.Dict, ast.ListComp, ast.DictComp, ast.comprehension, ast.BoolOp, ast.And, ast.Or, ast.UnaryOp, ast.Not,
         ast.USub, ast.BinOp, ast.Add, ast.Sub, ast.Mult, ast.FloorDiv, ast.Mod, ast.Pow, ast.Compare, ast.Eq, ast.NotEq,
         ast.Lt, ast.LtE, ast.Gt, ast.GtE, ast.Is, ast.IsNot, ast.In, ast.NotIn, ast.IfExp, ast.Lambda, ast.JoinedStr,
         ast.FormattedValue, ast.Pass)
BARRED = set("mro elements open input law register type id dir vars exit help quit compile eval exec next iter map filter "
             "hash round super object format".split())
INTERFACE = {
    "errors": "PileError InvalidLabels InvalidStack InvalidModule InvalidRule InvalidInterface InvalidWires InvalidBlocks "
              "InvalidContext InvalidProgram InvalidEdit InvalidClaim ParseError InvalidCommand UnknownEntry UnknownState "
              "InvalidNumber UnknownModule NameConflict TooLarge NotEquivalent NothingToUndo",
    "modules/modules": "is_labels is_module is_stack is_rule make_module rule_heads rule_at start_state with_rule "
                       "without_rule",
    "runs/runs": "step trace is_trace",
    "summaries/summaries": "summary summaries visited_heads is_summary_paper",
    "results/results": "descent result",
    "stacks/blocks": "is_blocks blocks_length label_at spelled same_stack dropped",
    "results/long": "result_of_blocks",
}


def sources():
    return {path: path.read_text(encoding="utf-8") for path in sorted(PACKAGE.rglob("*.py"))}


def trees():
    return {path: ast.parse(text) for path, text in sources().items()}


class LanguageTest(unittest.TestCase):
    def test_files(self):
        for path in PACKAGE.rglob("*"):
            if "__pycache__" not in path.parts:
                self.assertTrue(path.is_dir() or path.suffix == ".py", path)
            if path.is_dir() and path.name != "__pycache__":
                self.assertTrue((path / "__init__.py").exists(), path)
                self.assertFalse(path.with_suffix(".py").exists(), path)

    def test_lines(self):
        for path, text in sources().items():
            self.assertTrue(all(letter == "\n" or " " <= letter <= "~" for letter in text), path)
            lines = text.split("\n")
            self.assertLess(len(lines), 400, path)
            self.assertLessEqual(max(len(line) for line in lines), 120, path)

    def test_statements(self):
        for path, tree in trees().items():
            for node in ast.walk(tree):
                self.assertIsInstance(node, NODES, f"{path}:{getattr(node, 'lineno', 0)}")
                if isinstance(node, ast.FunctionDef):
                    self.assertLessEqual(node.end_lineno - node.lineno + 1, 40, (path, node.name))
                    self.assertEqual(node.decorator_list, [])
                if isinstance(node, ast.ImportFrom):
                    self.assertTrue(node.module.startswith("piledoors.") and node.level == 0, path)
                    self.assertTrue(all(part.asname is None and part.name != "*" for part in node.names), path)
            for node in tree.body:
                self.assertIsInstance(node, (ast.Expr, ast.ImportFrom, ast.Assign, ast.FunctionDef, ast.ClassDef), path)

    def test_names(self):
        for path, tree in trees().items():
            bound = [name for node in tree.body for name in self.bound_by(node)]
            self.assertEqual(len(bound), len(set(bound)), path)
            imported = {part.name for node in tree.body if isinstance(node, ast.ImportFrom) for part in node.names}
            for node in ast.walk(tree):
                if isinstance(node, ast.Name):
                    self.assertNotIn(node.id, BARRED, path)
                    if isinstance(node.ctx, ast.Store):
                        self.assertNotIn(node.id, imported | BUILTINS | ERRORS, path)
                if isinstance(node, ast.arg):
                    self.assertNotIn(node.arg, imported | BUILTINS | ERRORS | BARRED, path)
            used = {node.id for node in ast.walk(tree) if isinstance(node, ast.Name)}
            self.assertLessEqual(imported, used, path)

    def bound_by(self, node):
        if isinstance(node, ast.ImportFrom):
            return [part.name for part in node.names]
        if isinstance(node, ast.Assign):
            return [target.id for target in node.targets]
        return [node.name] if isinstance(node, (ast.FunctionDef, ast.ClassDef)) else []

    def test_calls(self):
        methods = {node.name for tree in trees().values() for each in ast.walk(tree) if isinstance(each, ast.ClassDef)
                   for node in each.body if isinstance(node, ast.FunctionDef)}
        self.assertEqual([name for name in methods if hasattr("", name) or hasattr([], name) or hasattr({}, name)],
                         ["__init__"])
        for path, tree in trees().items():
            known = {name for node in tree.body for name in self.bound_by(node)} | BUILTINS | ERRORS
            for node in ast.walk(tree):
                if isinstance(node, ast.Call) and isinstance(node.func, ast.Name):
                    self.assertIn(node.func.id, known, f"{path}:{node.lineno}")
                if isinstance(node, ast.Call) and isinstance(node.func, ast.Attribute):
                    self.assertIn(node.func.attr, METHODS | methods, f"{path}:{node.lineno}")

    def test_interface(self):
        for name, members in INTERFACE.items():
            tree = trees()[PACKAGE / (name + ".py")]
            defined = {node.name for node in tree.body if isinstance(node, (ast.FunctionDef, ast.ClassDef))}
            self.assertLessEqual(set(members.split()), defined)
            for node in tree.body:
                if isinstance(node, (ast.FunctionDef, ast.ClassDef)):
                    self.assertTrue(ast.get_docstring(node), node.name)
