"""What README.md shows is what the program tells."""

import ast
import os
import re
import unittest

README = os.path.join(os.path.dirname(os.path.dirname(os.path.abspath(__file__))), "README.md")


def told_value(remark):
    """The value with which a remark begins, or nothing where it begins with words."""
    for end in [part.start() for part in re.finditer(r"[,:]|$", remark)][::-1]:
        try:
            return [ast.literal_eval(remark[:end])]
        except (ValueError, SyntaxError):
            continue
    return []


def done(node, names):
    """Does what stands in a row, once, and tells its value."""
    if isinstance(node, ast.Expr):
        return eval(compile(ast.Expression(node.value), README, "eval"), names)
    exec(compile(ast.Module([node], []), README, "exec"), names)
    return names[node.targets[0].id] if isinstance(node, ast.Assign) else None


class ReadmeTest(unittest.TestCase):
    def test_each_value_that_stands_in_a_remark(self):
        with open(README, encoding="utf-8") as file:
            blocks = re.findall(r"```python\n(.*?)```", file.read(), re.S)
        names, held = {}, 0
        for block in blocks:
            rows = block.split("\n")
            for node in ast.parse(block).body:
                told = done(node, names)
                row = rows[node.end_lineno - 1]
                value = told_value(row[node.end_col_offset:].partition("# ")[2])
                if value and isinstance(node, (ast.Expr, ast.Assign)):
                    self.assertEqual([told], value, row)
                    held += 1
        self.assertGreater(held, 20)


if __name__ == "__main__":
    unittest.main()
