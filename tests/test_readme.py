"""The examples of README.md give what stands beside them."""

import ast
import os
import re
import unittest

HERE = os.path.dirname(os.path.dirname(os.path.abspath(__file__)))


class Examples(unittest.TestCase):
    def test_all(self):
        with open(os.path.join(HERE, "README.md"), encoding="utf-8") as held:
            text = "\n".join(re.findall(r"```python\n(.*?)```", held.read(), re.S))
        lines = text.split("\n")
        names = {"print": lambda *things: None}
        many = 0
        for node in ast.parse(text).body:
            if not isinstance(node, ast.Expr):
                exec(compile(ast.Module([node], []), "README.md", "exec"), names)
                continue
            told = eval(compile(ast.Expression(node.value), "README.md", "eval"), names)
            beside = lines[node.end_lineno - 1].partition("# ")[2]
            if beside:
                many += 1
                self.assertTrue(beside.startswith(repr(told)), (lines[node.end_lineno - 1], told))
        self.assertGreater(many, 30)


if __name__ == "__main__":
    unittest.main()
