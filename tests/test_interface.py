"""The interface: each function under its name, in its file, with its arguments."""

import importlib
import inspect
import unittest

LISTED = {
    "houses": {"need_house": "house", "total": "house"},
    "melting": {
        "rates": "house", "left": "house hours", "open_faces": "house row column",
        "traced": "house row column", "spans": "house", "melted": "house", "lasting": "house",
    },
    "walls": {
        "after": "house hours change", "costs": "house hours", "dearest": "house hours", "saved": "house hours",
    },
    "plans": {
        "worked": "house deeds till plan", "worth": "house deeds till plan", "best": "house deeds till",
    },
    "showing": {"shows": "house deeds till worth table"},
    "texts": {"written": "house", "read": "text"},
}


class TestInterface(unittest.TestCase):
    def test_each_function_is_defined_in_its_file_with_its_arguments(self):
        for file, functions in LISTED.items():
            module = importlib.import_module("icehouse." + file)
            for name, arguments in functions.items():
                with self.subTest(file=file, function=name):
                    function = getattr(module, name)
                    self.assertTrue(inspect.isfunction(function))
                    self.assertEqual(function.__module__, "icehouse." + file)
                    self.assertEqual(function.__name__, name)
                    self.assertEqual(list(inspect.signature(function).parameters), arguments.split())


if __name__ == "__main__":
    unittest.main()
