import os
import unittest

from tests.examples import EXAMPLES
from tests.functions import MODULES
from everypairing import console, errors, live

DOCUMENT = os.path.join(
    os.path.dirname(os.path.abspath(__file__)), "..", "..", "shared", "DOC.md")


def told(text):
    """The tuples (expression, the line that stands below it, or None)."""
    found = []
    for row in text.strip().split("\n"):
        if row.startswith(">>> "):
            found.append([row[4:], None])
        else:
            found[-1][1] = row
    return found


class Examples(unittest.TestCase):
    def test_each_example(self):
        names = {"__builtins__": __builtins__}
        for module in MODULES + (errors, live, console):
            names.update({key: value for key, value in vars(module).items()
                          if getattr(value, "__module__", None) == module.__name__})
        count = 0
        for part in sorted(EXAMPLES):
            for source, answer in told(EXAMPLES[part]):
                with self.subTest(part=part, source=source):
                    self.check(source, answer, names)
                count += 1
        self.assertEqual(count, sum(text.count(">>> ") for text in EXAMPLES.values()))

    def check(self, source, answer, names):
        if answer is None:
            exec(source, names)
        elif answer.startswith("raises "):
            self.check_raises(source, answer[len("raises "):], names)
        else:
            self.assertEqual(repr(eval(source, names)), answer)

    def check_raises(self, source, error, names):
        name, _, rest = error.partition("(")
        with self.assertRaises(names[name]) as caught:
            eval(source, names)
        self.assertIs(type(caught.exception), names[name])
        if rest:
            wanted = eval(error, names)
            self.assertEqual(vars(caught.exception), vars(wanted))

    def test_they_are_those_of_the_document(self):
        if not os.path.exists(DOCUMENT):
            self.skipTest("the document is not beside the project")
        with open(DOCUMENT, encoding="utf-8") as file:
            text = file.read()
        for part in EXAMPLES:
            for source, _ in told(EXAMPLES[part]):
                self.assertIn(">>> " + source + "\n", text)


if __name__ == "__main__":
    unittest.main()
