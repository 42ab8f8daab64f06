"""The examples of README.md tell what is written behind them."""

import pathlib
import re
import unittest

README = pathlib.Path(__file__).resolve().parent.parent / "README.md"


class Examples(unittest.TestCase):
    def test_each_one(self):
        known, told = {}, 0
        for block in re.findall(r"```python\n(.*?)```", README.read_text("utf-8"), re.S):
            waiting = ""
            for row in block.split("\n"):
                code, mark, right = row.partition("  # ")
                if mark and right[0] in "[('TF0123456789":
                    self.assertEqual(repr(eval(code.strip(), known)), right, row)
                    told += 1
                    continue
                waiting += row + "\n"
                # A row that is not whole yet goes on in the next one.
                if waiting.count("(") == waiting.count(")"):
                    exec(waiting, known)
                    waiting = ""
            self.assertEqual(waiting, "")
        self.assertGreater(told, 30)


if __name__ == "__main__":
    unittest.main()
