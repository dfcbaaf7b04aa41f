import importlib
import inspect
import unittest

FUNCTIONS = {
    "limits": {"within": "(what, value, least, most)"},
    "words": {"is_number": "(word)", "split_words": "(line)"},
    "edits": {
        "joined": "(table, row)",
        "rowed": "(table, seeker, row)",
        "valued": "(table, seeker, desk, worth)",
        "placed": "(table, desk, places)",
        "only": "(table, lot)",
    },
    "changes": {"changed": "(before, after)"},
    "tabletexts": {"write_table": "(table)", "read_table": "(text)"},
    "lots": {
        "seekers_of": "(table, lot=None)",
        "lot_with": "(table, lot, seeker)",
        "lot_without": "(table, lot, seeker)",
    },
    "seats": {
        "seat_fault": "(table, held)",
        "loads": "(table, held)",
        "value": "(table, held)",
        "holders": "(table, held, desk)",
    },
}

CLASSES = {
    "tables": {
        "Table": {
            "__init__": "(self, places, rows, most)",
            "worth": "(self, seeker, desk)",
            "weight": "(self, seeker, desk)",
        },
    },
}


class InterfaceTest(unittest.TestCase):
    def test_functions(self):
        for module, functions in FUNCTIONS.items():
            for name, parameters in functions.items():
                with self.subTest(f"{module}.{name}"):
                    function = getattr(importlib.import_module("heldbest." + module), name)
                    self.assertTrue(inspect.isfunction(function))
                    self.assertEqual(function.__module__, "heldbest." + module)
                    self.assertEqual(str(inspect.signature(function)), parameters)

    def test_classes(self):
        for module, classes in CLASSES.items():
            for name, methods in classes.items():
                made = getattr(importlib.import_module("heldbest." + module), name)
                self.assertEqual(made.__module__, "heldbest." + module)
                for method, parameters in methods.items():
                    with self.subTest(f"{module}.{name}.{method}"):
                        self.assertEqual(str(inspect.signature(vars(made)[method])), parameters)
