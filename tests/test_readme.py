"""The examples of README.md: each expression is followed by a comment with its value."""

import ast
import pathlib
import re
import unittest

README = pathlib.Path(__file__).resolve().parent.parent / "README.md"


class ReadmeTest(unittest.TestCase):
    def test_examples(self):
        known = {}
        checked = 0
        for block in re.findall(r"```python\n(.*?)```", README.read_text(encoding="utf-8"), re.S):
            lines = block.split("\n")
            for node in ast.parse(block).body:
                if not isinstance(node, ast.Expr):
                    exec(compile(ast.Module([node], []), "README.md", "exec"), known)
                    continue
                value = eval(compile(ast.Expression(node.value), "README.md", "eval"), known)
                told = lines[node.end_lineno]
                self.assertEqual(repr(value), told[2:] if told.startswith("# ") else "None")
                checked += 1
        self.assertGreater(checked, 20)


if __name__ == "__main__":
    unittest.main()
