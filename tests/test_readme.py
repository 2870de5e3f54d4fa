"""The examples of README.md do what stands there."""

import os
import re
import unittest

README = os.path.join(os.path.dirname(os.path.dirname(os.path.abspath(__file__))), "README.md")


class Examples(unittest.TestCase):
    def test_they_show_what_they_say(self):
        with open(README, encoding="utf-8") as file:
            blocks = re.findall(r"```python\n(.*?)```", file.read(), re.S)
        names, shown = {}, 0
        for block in blocks:
            # What a comment says is the value of the line above it.
            lines = block.strip().split("\n")
            for at, line in enumerate(lines):
                if line.startswith("# "):
                    self.assertEqual(repr(eval(lines[at - 1], names)), line[2:])
                    shown += 1
                elif not (at + 1 < len(lines) and lines[at + 1].startswith("# ")):
                    exec(line, names)
        self.assertGreater(shown, 10)


if __name__ == "__main__":
    unittest.main()
