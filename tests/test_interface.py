"""The interface: names, arguments, and the file and class in which each of them is defined."""

import importlib
import inspect
import unittest

from worneven import chips, codes, errors
from worneven.chips import Chip
from worneven.desk import Desk
from worneven.files import Files
from worneven.grounds import Ground
from worneven.shell import Shell

PAGE = "0123456789abcdef" * 16
PROPERTIES = ("blocks", "pages", "wear", "bad", "done", "cuts", "is_on")
METHODS = {
    "read": ["self", "place"],
    "write": ["self", "place", "cells"],
    "erase": ["self", "block"],
    "again": ["self"],
    "fade": ["self", "place", "cell", "sign"],
    "image": ["self"],
    "copy": ["self"],
    "__eq__": ["self", "other"],
}

FUNCTIONS = {
    "codes": {"sums": ["cells"], "sealed": ["text"], "opened": ["cells"]},
    "maps": {
        "map_get": ["look", "root", "key"], "map_items": ["look", "root", "low", "high"],
        "map_with": ["look", "root", "changes"], "map_anew": ["look", "root"], "map_places": ["look", "root"],
        "written": ["sheet", "places"], "sheet_in": ["text"],
    },
    "grounds": {"told_room": ["entries", "good", "pages"], "meaning": ["image", "pages"]},
    "nodes": {
        "node_key": ["number"], "name_key": ["number", "name"], "part_key": ["number", "part"], "node_value": ["node"],
        "node_in": ["value"], "parts": ["text"], "wrong_keys": ["items"], "tree_of": ["items"], "items_of": ["tree"],
    },
    "quotas": {"used": ["tree", "path"], "over": ["tree"], "room_in": ["tree", "path"]},
    "checker": {
        "states": ["image", "pages"], "fallen": ["image", "pages"], "judged": ["image", "pages"], "health": ["chip"],
    },
    "scripts": {"played": ["text"], "trees": ["text"], "cuts": ["text", "pattern"]},
    "journals": {"journal": ["desk"], "read_journal": ["text"]},
    "walks": {
        "walk": ["tree", "path"], "names_of": ["tree", "path"], "holding": ["tree", "path", "part"], "deepest": ["tree"],
    },
}
CLASSES = {
    "files": ("Files", ["chip"], ["ground"], {
        "make_folder": ["self", "path"], "put": ["self", "path", "text"], "write": ["self", "path", "at", "text"], "cut_to": ["self", "path", "size"],
        "add_name": ["self", "path", "other"], "remove": ["self", "path"], "move": ["self", "path", "other"], "quota": ["self", "path", "number"],
        "together": ["self", "deeds"], "read": ["self", "path"], "names": ["self", "path"], "look": ["self", "path"], "tree": ["self"],
    }),
    "shell": ("Shell", ["blocks", "pages"], [], {"say": ["self", "line"]}),
    "desk": ("Desk", ["blocks", "pages"], ["shell", "lines", "answers", "blocks", "pages"], {
        "say": ["self", "line"], "undo": ["self"], "redo": ["self"], "tried": ["self", "lines"], "copy": ["self"], "__eq__": ["self", "other"],
    }),
}
ERRORS = """
BadSize BadFaults BadPlace BadCells NotEmpty Cut BadBlock BadFade BadText BadKey BadChanges BadSheet BadPlaces NoGround Full BadNumber BadImage BadName
BadPart BadNode BadValue BadItems BadTree BadPath NoPath NotFolder There IsFolder BadSpan OverQuota Within NotEmptyFolder BadQuota BadDeeds BadLine BadScript
BadPattern BadLines NothingToUndo NothingToRedo BadJournal
""".split()
GROUND = {
    "get": ["self", "key"], "items": ["self", "low", "high"], "commit": ["self", "changes"], "gather": ["self"],
    "room": ["self"],
}


class Interface(unittest.TestCase):
    def test_functions_are_defined_in_their_files(self):
        for name, functions in FUNCTIONS.items():
            module = importlib.import_module("worneven." + name)
            for function, parameters in functions.items():
                found = vars(module)[function]
                self.assertTrue(inspect.isfunction(found), function)
                self.assertEqual((found.__module__, found.__name__), ("worneven." + name, function))
                self.assertEqual(list(inspect.signature(found).parameters), parameters)
                for parameter in inspect.signature(found).parameters.values():
                    self.assertIs(parameter.kind, inspect.Parameter.POSITIONAL_OR_KEYWORD)

    def test_files_shells_and_desks(self):
        made = {"files": Files(Chip(8, 4)), "shell": Shell(8, 4), "desk": Desk(8, 4)}
        for module, (name, parameters, properties, methods) in CLASSES.items():
            found = type(made[module])
            self.assertEqual((found.__name__, found.__module__), (name, "worneven." + module))
            self.assertEqual(list(inspect.signature(found).parameters), parameters)
            for method, names in methods.items():
                self.assertTrue(inspect.isfunction(vars(found)[method]), method)
                self.assertEqual(list(inspect.signature(vars(found)[method]).parameters), names)
            for prop in properties:
                self.assertIn(prop, vars(found))
                self.assertTrue(hasattr(made[module], prop))

    def test_all_errors(self):
        self.assertEqual(sorted(ERRORS + ["FlashError"]), sorted(name for name, made in vars(errors).items() if inspect.isclass(made)))
        for name in ERRORS:
            self.assertEqual(vars(errors)[name].__bases__, (errors.FlashError,))
            self.assertIsNone(vars(errors)[name](None).value)

    def test_the_ground(self):
        self.assertEqual(Ground.__module__, "worneven.grounds")
        self.assertEqual(list(inspect.signature(Ground).parameters), ["chip"])
        for name, parameters in GROUND.items():
            self.assertTrue(inspect.isfunction(vars(Ground)[name]), name)
            self.assertEqual(list(inspect.signature(vars(Ground)[name]).parameters), parameters)
        for name in ("number", "living", "chip"):
            self.assertIn(name, vars(Ground))
            self.assertTrue(hasattr(Ground(Chip(4, 4)), name))

    def test_methods_and_properties_are_defined_in_the_class_itself(self):
        for name in METHODS:
            self.assertTrue(inspect.isfunction(vars(Chip)[name]), name)
            self.assertEqual(list(inspect.signature(vars(Chip)[name]).parameters), METHODS[name])
        for name in PROPERTIES:
            self.assertIn(name, vars(Chip))
            self.assertTrue(hasattr(Chip(4, 4), name))

    def test_parameters_of_a_chip(self):
        parameters = inspect.signature(Chip).parameters
        self.assertEqual(list(parameters), ["blocks", "pages", "faults"])
        self.assertEqual(parameters["faults"].default, ())
        self.assertIs(parameters["blocks"].default, inspect.Parameter.empty)

    def test_files_of_classes(self):
        self.assertEqual(chips.Chip.__module__, "worneven.chips")
        for name, made in vars(errors).items():
            if inspect.isclass(made):
                self.assertEqual(made.__module__, "worneven.errors", name)

    def test_arguments_by_name(self):
        chip = Chip(pages=5, blocks=6, faults=((3, "bad", "0"),))
        self.assertEqual((chip.blocks, chip.pages, Chip(6, 5, ((3, "bad", "0"),)) == chip), (6, 5, True))
        self.assertIs(chip.write(cells=PAGE, place=7), True)
        self.assertIsNone(chip.fade(sign="0", cell=1, place=7))
        self.assertEqual(chip.read(place=7)[:3], "002")
        self.assertIs(chip.erase(block=1), True)
        self.assertEqual(codes.opened(cells=codes.sealed(text="by name")), ("whole", "by name"))
        self.assertEqual(codes.sums(cells="f" * 256), (0, 0, 0))

    def test_kinds_of_what_is_told(self):
        chip = Chip(4, 4, ((9, "cut", "f"),))
        kinds = [type(getattr(chip, name)) for name in PROPERTIES]
        self.assertEqual(kinds, [int, int, tuple, tuple, int, int, bool])
        self.assertIs(type(chip.image()), tuple)
        self.assertIs(type(chip.copy()), Chip)
        self.assertIsNone(chip.again())
        self.assertIs(type(codes.sums(PAGE)), tuple)
        self.assertIs(type(codes.opened(PAGE)), tuple)


if __name__ == "__main__":
    unittest.main()
