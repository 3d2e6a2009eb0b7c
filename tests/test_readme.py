"""What README.md shows can be run, block by block."""

import re
import unittest
from pathlib import Path

README = Path(__file__).resolve().parent.parent / "README.md"


class ReadmeTests(unittest.TestCase):

    def test_all_blocks_run(self):
        names = {}
        blocks = re.findall(r"```python\n(.*?)```", README.read_text(), re.S)
        self.assertGreater(len(blocks), 15)
        for at, block in enumerate(blocks):
            with self.subTest(at=at):
                exec(block, names)


if __name__ == "__main__":
    unittest.main()
