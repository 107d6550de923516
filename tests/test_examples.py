"""Every example of the document, word for word (examples.txt holds them, parted by empty lines)."""

import pathlib
import re
import unittest

from oneedition import errors

HERE = pathlib.Path(__file__).resolve().parent
DOC = HERE.parent.parent / "shared" / "DOC.md"
BLOCKS = (HERE / "examples.txt").read_text().split("\n\n")


def told_by(line, names):
    """Do what a line says, and return what an interpreter would show."""
    try:
        code, run = compile(line, "example", "eval"), eval
    except SyntaxError:
        code, run = compile(line, "example", "exec"), exec
    try:
        value = run(code, names)
    except errors.KeeperError as error:
        told = ", ".join(f"{name}={value!r}" for name, value in vars(error).items())
        return f"raises {type(error).__name__}({told})"
    return None if value is None else repr(value)


class Examples(unittest.TestCase):

    def run_block(self, lines, names):
        many = 0
        for at, line in enumerate(lines):
            if line.startswith(">>> "):
                shown = told_by(line[4:], names)
                wanted = lines[at + 1] if at + 1 < len(lines) and not lines[at + 1].startswith(">>> ") else None
                if wanted is not None or shown is not None and not re.match(r">>> \w+ = ", line):
                    self.assertEqual(shown, wanted, line)
                    many += 1
        return many

    def test_each_example(self):
        first, many = [], 0
        for block in BLOCKS:
            lines = block.strip("\n").split("\n")
            names = {}
            with self.subTest(block=lines[0]):
                if lines[0] == ">>> from oneedition.keeper import Keeper":
                    first = lines
                self.run_block(first, names)
                many += self.run_block(lines, names)
        self.assertEqual(len(BLOCKS), 17)
        self.assertGreater(many, 30)

    def test_they_are_those_of_the_document(self):
        if not DOC.exists():
            self.skipTest("the document is not here")
        told = re.findall(r"```\n(>>>.*?)```", DOC.read_text(), re.S)
        self.assertEqual([block.strip("\n") for block in BLOCKS], [block.strip("\n") for block in told])


if __name__ == "__main__":
    unittest.main()
