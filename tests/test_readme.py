"""The examples of README.md: each row with a remark tells what the remark says."""

import re
import unittest
from pathlib import Path

README = Path(__file__).resolve().parent.parent / "README.md"


def examples():
    """The rows of the example, without the last part, in which something is refused."""
    text = re.search(r"```python\n(.*?)\ntry:\n", README.read_text("utf-8"), re.DOTALL).group(1)
    return [row for row in text.split("\n") if row and not row.startswith("#")]


class Examples(unittest.TestCase):
    def test_each_row(self):
        names = {}
        many = 0
        for row in examples():
            code, mark, remark = row.partition(" # ")
            with self.subTest(row):
                if not mark:
                    exec(code, names)
                    continue
                told = repr(eval(code, names))
                self.assertIn(told, (remark, remark.partition(":")[0]))
                many += 1
        self.assertGreater(many, 50)


if __name__ == "__main__":
    unittest.main()
