"""The examples of README.md: each row that tells what comes out tells the truth."""

import pathlib
import re
import unittest

README = pathlib.Path(__file__).resolve().parent.parent / "README.md"


class Readme(unittest.TestCase):
    def test_what_the_examples_tell(self):
        text = README.read_text(encoding="utf-8")
        known, compared = {}, 0
        for block in re.findall(r"```python\n(.*?)```", text, re.S):
            for row in block.splitlines():
                code, _, note = row.partition("#")
                told = re.match(r"(None|True|False|-?\d+|\".*?\"(?=$|,)|[(\[].*)", note.strip())
                if told is None or "=" in code.replace("==", ""):
                    exec(row, known)
                    continue
                found = eval(code, known)
                self.assertEqual(found, self.first_value(told.group()), row)
                compared += 1
        self.assertGreater(compared, 15)

    def first_value(self, note):
        """The value with which a note begins; words may stand behind it."""
        for end in range(len(note), 0, -1):
            try:
                return eval(note[:end].rstrip(" ,:;"), {"__builtins__": {}})
            except (SyntaxError, NameError):
                continue
        raise AssertionError(note)


if __name__ == "__main__":
    unittest.main()
