"""The interface: the modules, their functions and classes, and the names of the arguments."""

import importlib
import inspect
import unittest

FUNCTIONS = {
    "rules": {"rule_of": ["rooms", "ways"], "homes": ["rule", "key"], "is_rule": ["thing"]},
    "webs": {
        "web_of": ["rule", "keys"], "is_web": ["thing"], "homes_of": ["web", "some"], "room_of": ["web", "nests"]},
    "layings": {
        "fault": ["web", "laying"], "is_whole": ["laying"], "laid": ["laying"], "lying": ["laying", "nest"],
        "left": ["web", "laying"]},
    "fits": {"is_crowd": ["web", "some"], "fitted": ["web"], "trimmed": ["web", "some"]},
    "most": {"bound": ["web", "nests"], "most": ["web"], "widened": ["web", "more"], "room_wanted": ["web"]},
    "pushes": {
        "pushed": ["web", "laying", "key", "row"], "put_in": ["web", "laying", "key"],
        "within": ["web", "laying", "key", "number"]},
    "pairs": {"parts": ["web"], "words": ["web"], "on_rings": ["web"], "ways": ["web"]},
    "lies": {"may_lie": ["web", "key", "nest"], "places": ["web"]},
    "worths": {"best": ["web", "worths"], "is_best": ["web", "worths", "told"]},
    "names": {
        "nests_named": ["web", "order"], "keys_named": ["web", "order"], "laying_of_nests": ["laying", "order"],
        "laying_of_keys": ["laying", "order"], "some_named": ["some", "order"]},
    "texts": {"show_rule": ["rule"], "show_web": ["web"], "read_rule": ["text"], "read_web": ["text"]},
}

CLASSES = {
    "shelves": {"Shelf": {
        "__init__": ["rule"], "put": ["key"], "out": ["key"], "has": ["key"], "where": ["key"], "all_there": [],
        "nest": ["h"], "left": [], "renew": ["rule"], "rule": []}},
    "desk": {"Desk": {"__init__": ["text"], "say": ["row"]}},
}


class InterfaceTest(unittest.TestCase):
    def test_functions(self):
        for module, functions in FUNCTIONS.items():
            found = importlib.import_module("keynests." + module)
            for name, arguments in functions.items():
                told = list(inspect.signature(getattr(found, name)).parameters)
                self.assertEqual(told, arguments, (module, name))

    def test_classes(self):
        for module, classes in CLASSES.items():
            found = importlib.import_module("keynests." + module)
            for name, methods in classes.items():
                for method, arguments in methods.items():
                    told = list(inspect.signature(getattr(getattr(found, name), method)).parameters)
                    self.assertEqual(told[1:], arguments, (module, name, method))


if __name__ == "__main__":
    unittest.main()
