"""The examples in README.md are answered as they stand there."""

import pathlib
import unittest

# What a remark begins with that tells the answer of its row.
ANSWERS = ("[", "(", "0", "1", "2", "3", "None", "True", "False", '"')
README = pathlib.Path(__file__).resolve().parent.parent / "README.md"


def code_lines():
    inside = False
    for line in README.read_text().splitlines():
        if line.startswith("```"):
            inside = line == "```python"
        elif inside and line:
            yield line


def answer_of(remark):
    """The answer without the words behind it."""
    remark = remark.strip()
    # A text may hold what would part the answer from the words.
    if remark.startswith('"'):
        return remark[:remark.index('"', 1) + 1]
    return remark.split(": ")[0].split(", as ")[0]


class ReadmeTest(unittest.TestCase):
    def test_examples(self):
        names = {}
        shown = 0
        above = ""
        for line in code_lines():
            call, sign, answer = line.partition("#")
            if not sign or not answer.strip().startswith(ANSWERS):
                exec(call, names)
                above = call
                continue
            # A remark on a row of its own tells the answer of the row above it.
            call = call.strip() or above.split(" = ")[0]
            self.assertEqual(eval(call, names), eval(answer_of(answer), names), line)
            shown += 1
        self.assertGreaterEqual(shown, 73)

    def test_the_rings_told_there(self):
        names = {}
        for line in code_lines():
            exec(line, names)
        self.assertIn(names["wrong_ring"](names["game"], 0), ([0, 1], [1, 0]))
        self.assertEqual(names["lasso"](names["game"], 1, 0), ([0], [2]))


if __name__ == "__main__":
    unittest.main()
