"""The interface: the modules, their functions and classes, and the names of the arguments."""

import importlib
import inspect
import unittest

FUNCTIONS = {
    "rules": {"rule_of": ["rooms", "ways"], "homes": ["rule", "key"], "is_rule": ["thing"]},
    "webs": {
        "web_of": ["rule", "keys"], "is_web": ["thing"], "homes_of": ["web", "some"], "room_of": ["web", "nests"]},
    "layings": {
        "fault": ["web", "laying"], "is_whole": ["laying"], "laid": ["laying"], "lying": ["laying", "nest"],
        "left": ["web", "laying"]},
    "fits": {"is_crowd": ["web", "some"], "fitted": ["web"], "trimmed": ["web", "some"]},
    "most": {"bound": ["web", "nests"], "most": ["web"], "widened": ["web", "more"], "room_wanted": ["web"]},
    "pushes": {
        "pushed": ["web", "laying", "key", "row"], "put_in": ["web", "laying", "key"],
        "within": ["web", "laying", "key", "number"]},
    "pairs": {"parts": ["web"], "words": ["web"], "on_rings": ["web"], "ways": ["web"]},
    "lies": {"may_lie": ["web", "key", "nest"], "places": ["web"]},
    "worths": {"best": ["web", "worths"], "is_best": ["web", "worths", "told"]},
}


class InterfaceTest(unittest.TestCase):
    def test_functions(self):
        for module, functions in FUNCTIONS.items():
            found = importlib.import_module("keynests." + module)
            for name, arguments in functions.items():
                told = list(inspect.signature(getattr(found, name)).parameters)
                self.assertEqual(told, arguments, (module, name))


if __name__ == "__main__":
    unittest.main()
