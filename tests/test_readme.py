"""What README.md shows comes out as it says."""

import ast
import pathlib
import re
import unittest

README = pathlib.Path(__file__).resolve().parent.parent / "README.md"


class Readme(unittest.TestCase):
    def test_code(self):
        code = re.search(r"```python\n(.*?)```", README.read_text(encoding="utf-8"), re.DOTALL).group(1)
        lines, names, many = code.split("\n"), {}, 0
        for node in ast.parse(code).body:
            source = ast.get_source_segment(code, node)
            told = lines[node.end_lineno - 1].partition("  # ")[2].strip()
            if isinstance(node, ast.Expr) and told and not source.startswith("print"):
                value = eval(source, names)
                if value is not None:
                    self.assertTrue(told.startswith(repr(value)), (source, value, told))
                    many += 1
            elif not source.startswith("print"):
                exec(source, names)
        self.assertGreater(many, 20)


if __name__ == "__main__":
    unittest.main()
