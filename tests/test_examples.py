"""The examples of all sections, in one go: each uses what earlier ones imported, and the names that were bound last."""

import os
import unittest

HERE = os.path.dirname(os.path.abspath(__file__))


def examples():
    """Pairs of a line and of what it shows, None for nothing; in order."""
    rows = []
    with open(os.path.join(HERE, "examples.txt"), encoding="utf-8") as file:
        for line in file.read().split("\n"):
            if line.startswith(">>> "):
                rows.append((line[4:], None))
            elif line and not line.startswith("## "):
                rows[-1] = (rows[-1][0], line)
    return rows


def is_expression(line):
    try:
        compile(line, "example", "eval")
    except SyntaxError:
        return False
    return True


def shown(line, names):
    """What a line shows, as the examples tell it."""
    try:
        if is_expression(line):
            value = eval(line, names)
            return None if value is None else repr(value)
        exec(line, names)
    except ValueError as error:
        fields = ", ".join(repr(value) for value in vars(error).values())
        return f"raises {type(error).__name__}({fields})"
    return None


class Examples(unittest.TestCase):
    def test_in_one_go(self):
        names = {}
        rows = examples()
        self.assertGreater(len(rows), 140)
        for line, wanted in rows:
            self.assertEqual(shown(line, names), wanted, line)


if __name__ == "__main__":
    unittest.main()
