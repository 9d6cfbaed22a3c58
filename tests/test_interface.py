"""The interface: names, arguments and kinds of values exist as DOC.md writes them."""

import importlib
import inspect
import unittest

# Each call as its arguments are written in DOC.md.
CALLS = {
    "codes": {"is_fault": "(thing)"},
    "masks": {"is_mask": "(thing)", "masked": "(codes, mask, *, start=0)", "mask_of": "(first, number)"},
    "errors": {
        "BadSlip": "(part)", "BadLetter": "(part)", "BadEnd": "(part)", "BadText": "(text)", "BadRow": "(row)",
        "Fault": "(code, at)", "NoSlip": "(number)", "NoByte": "(at)", "NoDeed": "(many)", "Ended": "(talk)",
    },
}


class Interface(unittest.TestCase):
    def test_arguments_are_those_written(self):
        for file, calls in CALLS.items():
            module = importlib.import_module("slipwire." + file)
            for name, written in calls.items():
                with self.subTest(file=file, name=name):
                    self.assertEqual(str(inspect.signature(getattr(module, name))), written)

    def test_a_name_stands_in_the_file_that_is_told(self):
        for file, calls in CALLS.items():
            module = importlib.import_module("slipwire." + file)
            for name in calls:
                with self.subTest(file=file, name=name):
                    self.assertEqual(getattr(module, name).__module__, "slipwire." + file)


if __name__ == "__main__":
    unittest.main()
