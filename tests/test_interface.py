"""The interface: names and arguments as the document has them."""

import importlib
import inspect
import unittest

FUNCTIONS = {
    "trimrows.things": {
        "are_rows": ["thing"],
        "product": ["one", "other"],
        "made_by": ["rows", "weights"],
    },
    "trimrows.uprights": {
        "shares": ["rows"],
        "heights": ["rows"],
        "volumes": ["rows"],
        "are_trim": ["rows"],
    },
    "trimrows.trimming": {
        "trim": ["rows"],
    },
    "trimrows.making": {
        "weights_of": ["rows", "row"],
        "near": ["rows", "row"],
    },
    "trimrows.shortest": {
        "shortest": ["rows"],
    },
}


class Interface(unittest.TestCase):
    def test_functions_and_their_arguments(self):
        for module, functions in FUNCTIONS.items():
            for name, arguments in functions.items():
                with self.subTest(module=module, name=name):
                    function = getattr(importlib.import_module(module), name)
                    self.assertEqual(list(inspect.signature(function).parameters), arguments)

    def test_errors_can_be_imported_and_nothing_is_refused(self):
        module = importlib.import_module("trimrows.errors")
        kinds = [value for value in vars(module).values()
                 if isinstance(value, type) and issubclass(value, Exception)]
        self.assertEqual(kinds, [])

    def test_parts_can_be_imported(self):
        importlib.import_module("trimrows.parts")


if __name__ == "__main__":
    unittest.main()
