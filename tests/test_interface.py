"""The interface: names, arguments and kinds of values exist as DOC.md writes them."""

import importlib
import inspect
import unittest

# Each call as its arguments are written in DOC.md.
CALLS = {
    "codes": {"is_fault": "(thing)"},
    "masks": {"is_mask": "(thing)", "masked": "(codes, mask, *, start=0)", "mask_of": "(first, number)"},
    "sizes": {"size_bytes": "(size)", "size_at": "(codes, at)"},
    "slips": {"Slip": "(kind, talk, data=(), *, last=True, mask=None)", "slip_at": "(codes, at, *, masks)"},
    "signs": {"is_words": "(thing)", "words_bytes": "(words)", "words_in": "(codes)", "Signs": "()"},
    "reading": {"Reader": "(masks, *, most=4096)", "events_of": "(codes, *, masks, most=4096)"},
    "cutting": {"slips_for": "(talk, word, data, *, sizes=(), every=100)", "joined_in": "(slips)"},
    "post": {"Post": "(role, *, mask=(1, 2, 3, 4), most=4096, every=100)"},
    "wire": {"Wire": "(*, mask=(1, 2, 3, 4), most=4096, every=100)"},
    "reports": {"report": "(codes, *, masks, most=4096)", "shows_report": "(codes, thing, *, masks, most=4096)",
                "fault_of": "(codes, *, masks, most=4096)", "whole_to": "(codes, *, masks, most=4096)",
                "shows_fault": "(codes, thing, *, masks, most=4096)",
                "remasked": "(codes, mask, *, masks, most=4096)"},
    "sliptext": {"slip_text": "(slip)", "slip_in": "(text)"},
    "dumps": {"dump": "(codes)", "dumped_in": "(text)", "event_text": "(event)"},
    "desk": {"answers": "(text, *, most=4096)"},
    "errors": {
        "BadSlip": "(part)", "BadLetter": "(part)", "BadEnd": "(part)", "BadText": "(text)", "BadRow": "(row)",
        "Fault": "(code, at)", "NoSlip": "(number)", "NoByte": "(at)", "NoDeed": "(many)", "Ended": "(talk)",
    },
}

# The methods of each class, and what Python's own functions ask of it.
METHODS = {
    ("slips", "Slip"): {"codes": "(self)", "__len__": "(self)", "__eq__": "(self, other)", "__str__": "(self)",
                        "__repr__": "(self)"},
    ("signs", "Signs"): {"put": "(self, byte)", "how_many": "(self)", "is_whole": "(self)", "words": "(self)",
                         "__len__": "(self)", "__eq__": "(self, other)", "__str__": "(self)", "__repr__": "(self)"},
    ("reading", "Reader"): {"put": "(self, codes)", "begun": "(self)", "ended": "(self)", "how_far": "(self)",
                            "fault": "(self)", "twin": "(self)"},
    ("post", "Post"): {"send": "(self, talk, word, data, *, sizes=(), every=None)", "bell": "(self, talk, data=())",
                       "close": "(self, talk, *, code=1, words=())", "pull": "(self, *, many=None)",
                       "put": "(self, codes)", "codes_of": "(self, talk)", "state": "(self, talk)",
                       "is_dead": "(self)", "fault": "(self)", "waits": "(self)", "went": "(self)",
                       "__repr__": "(self)"},
    ("wire", "Wire"): {"send": "(self, role, talk, word, data, *, sizes=(), every=None)",
                       "bell": "(self, role, talk, data=())", "close": "(self, role, talk, *, code=1, words=())",
                       "go": "(self, role, *, many=None)", "come": "(self, role, *, many=None)", "run": "(self)",
                       "bend": "(self, role, at, byte)", "break_off": "(self)", "back": "(self)",
                       "told": "(self, role)", "state": "(self, role, talk)", "codes_of": "(self, role, talk)",
                       "is_dead": "(self, role)", "fault": "(self, role)", "under_way": "(self, role)",
                       "is_broken": "(self)", "deeds": "(self)", "as_told": "(self, many)", "twin": "(self)",
                       "log": "(self)", "is_open": "(self)", "__repr__": "(self)"},
}


class Interface(unittest.TestCase):
    def test_arguments_are_those_written(self):
        for file, calls in CALLS.items():
            module = importlib.import_module("slipwire." + file)
            for name, written in calls.items():
                with self.subTest(file=file, name=name):
                    self.assertEqual(str(inspect.signature(getattr(module, name))), written)

    def test_a_name_stands_in_the_file_that_is_told(self):
        for file, calls in CALLS.items():
            module = importlib.import_module("slipwire." + file)
            for name in calls:
                with self.subTest(file=file, name=name):
                    self.assertEqual(getattr(module, name).__module__, "slipwire." + file)

    def test_each_method_stands_in_its_class_itself(self):
        for (file, name), methods in METHODS.items():
            held = vars(getattr(importlib.import_module("slipwire." + file), name))
            for method, written in methods.items():
                with self.subTest(name=name, method=method):
                    self.assertIn(method, held)
                    self.assertEqual(str(inspect.signature(held[method])), written)


if __name__ == "__main__":
    unittest.main()
