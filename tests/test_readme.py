"""The examples in README.md tell what the program tells."""
import ast
import re
import unittest
from pathlib import Path

README = Path(__file__).resolve().parent.parent / "README.md"


def each_example():
    """(kept names, code, what is said of it or None) of each row; names go on from block to block."""
    kept = {}
    for block in re.findall(r"```python\n(.*?)```", README.read_text("ascii"), re.DOTALL):
        for node in ast.parse(block).body:
            code = ast.get_source_segment(block, node)
            _, mark, said = block.split("\n")[node.end_lineno - 1].partition("  # ")
            if isinstance(node, ast.Expr):
                yield kept, code, said.strip() if mark else None
            else:
                exec(compile(ast.Module([node], []), "README.md", "exec"), kept)


class Examples(unittest.TestCase):

    def test_each_tells_what_is_said(self):
        checked = 0
        for kept, code, said in each_example():
            told = eval(code, kept)
            if said is not None:
                # Behind a colon stands why.
                worth = re.sub(r"^(True|False): .*", r"\1", said)
                self.assertEqual(told, eval(worth, kept), code)
                checked += 1
        self.assertGreater(checked, 40)


if __name__ == "__main__":
    unittest.main()
