"""The sessions of DOC.md, as they stand (sessions.txt holds them word for word), and of README.md."""

import os
import unittest

from facenumbers.errors import FaceError

FOLDER = os.path.dirname(os.path.abspath(__file__))
SESSIONS = os.path.join(FOLDER, "sessions.txt")
README = os.path.join(os.path.dirname(FOLDER), "README.md")


def steps(text):
    """Pairs of what is said behind >>> and the lines shown below it."""
    found = []
    for line in text.split("\n"):
        if line.startswith(">>> "):
            found.append((line[4:], []))
        elif line and not line.startswith("# "):
            found[-1][1].append(line)
    return [(said, "\n".join(shown)) for said, shown in found]


def answer(said, names):
    """What the session shows for a row: nothing, a value or an error."""
    try:
        try:
            code = compile(said, "session", "eval")
        except SyntaxError:
            exec(said, names)
            return ""
        value = eval(code, names)
    except FaceError as error:
        told = ", ".join(f"{name}={value!r}" for name, value in vars(error).items())
        return f"raises {type(error).__name__}({told})"
    return "" if value is None else repr(value)


class Sessions(unittest.TestCase):
    def as_told(self, text, least):
        told = steps(text)
        self.assertGreater(len(told), least)
        names = {}
        for said, shown in told:
            self.assertEqual(answer(said, names), shown, said)

    def test_of_the_document(self):
        with open(SESSIONS, encoding="ascii") as file:
            self.as_told(file.read(), 80)

    def test_of_the_readme(self):
        with open(README, encoding="ascii") as file:
            self.as_told("\n".join(file.read().split("```")[1::2]), 46)


if __name__ == "__main__":
    unittest.main()
