"""Runs each example of the interface as it stands."""

import ast
import importlib
import unittest

from tests import interface_examples

# In the order of the document, as later sections use the names that earlier ones made.
SECTIONS = ["checks", "papers", "kinds", "plays", "makers", "alike", "check_alike", "histories", "orders", "weaves",
            "check_orders", "own", "check_own", "joins", "besides", "check_besides", "disks", "journals", "things",
            "tongue", "check_things", "unnoticed", "spreads", "spread_logs", "right", "least_notes", "check_right",
            "spread_runs", "lowered", "letters", "sites", "tellers", "programs", "patience", "scripts", "worlds", "stories",
            "tears", "check_tears", "check_patience", "rings"]


def names_of(module):
    """The names that a module of the package defines itself, and the errors."""
    found = importlib.import_module("fewvisits." + module)
    return {name: value for name, value in vars(found).items()
            if getattr(value, "__module__", "") == found.__name__}


def steps(text):
    """Pairs of a statement and the line that is wanted of it, None if none is."""
    found = []
    for row in text.splitlines():
        if row.startswith(">>> "):
            found.append([row[4:], None])
        else:
            found[-1][1] = row
    return found


class Examples(unittest.TestCase):

    def check(self, statement, wanted, names):
        if wanted is None:
            exec(statement, names)
        elif wanted.startswith("raises "):
            call = ast.parse(wanted[len("raises "):], mode="eval").body
            named = isinstance(call, ast.Name)
            error = names[call.id if named else call.func.id]
            with self.assertRaises(error) as caught:
                eval(statement, names)
            self.assertIs(type(caught.exception), error)
            if not named:
                like = eval(wanted[len("raises "):], names)
                self.assertEqual(vars(caught.exception), vars(like))
        else:
            value = eval(statement, names)
            # repr tells tuples from lists and True from 1, as == does not.
            self.assertEqual(repr(value), repr(eval(wanted, names)))

    def test_each_example(self):
        names = names_of("errors")
        count = 0
        for section in SECTIONS:
            names.update(names_of(section))
            for statement, wanted in steps(getattr(interface_examples, section.upper())):
                with self.subTest(section=section, statement=statement):
                    self.check(statement, wanted, names)
                    count += 1
        self.assertGreater(count, 50)


if __name__ == "__main__":
    unittest.main()
