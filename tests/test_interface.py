"""[49]: each name stands in its file, each method in the body of its class, with its arguments."""

import ast
import inspect
import pathlib
import unittest

from idlewrites import errors, lots, programs
from idlewrites.lots import Lot
from idlewrites.programs import Program

PACKAGE = pathlib.Path(__file__).resolve().parent.parent / "idlewrites"

METHODS = {
    ("programs", "Program"): {
        "__init__": ["self", "parts"],
        "parts": ["self"],
        "writes": ["self"],
        "handed": ["self"],
        "struck": ["self", "lot"],
        "text": ["self"],
        "read": ["cls", "text"],
        "__sub__": ["self", "other"],
        "__len__": ["self"],
        "__getitem__": ["self", "at"],
        "__eq__": ["self", "other"],
    },
    ("lots", "Lot"): {
        "__init__": ["self", "places"],
        "__or__": ["self", "other"],
        "__and__": ["self", "other"],
        "__sub__": ["self", "other"],
        "__xor__": ["self", "other"],
        "__le__": ["self", "other"],
        "__lt__": ["self", "other"],
        "__ge__": ["self", "other"],
        "__gt__": ["self", "other"],
        "__eq__": ["self", "other"],
        "__contains__": ["self", "thing"],
        "__len__": ["self"],
    },
}


class Interface(unittest.TestCase):
    def test_methods_stand_in_the_body_of_their_class(self):
        for (file, word), methods in METHODS.items():
            tree = ast.parse((PACKAGE / f"{file}.py").read_text(encoding="utf-8"))
            (found,) = [node for node in tree.body if isinstance(node, ast.ClassDef) and node.name == word]
            inside = {node.name: node for node in found.body if isinstance(node, ast.FunctionDef)}
            for name, arguments in methods.items():
                with self.subTest(word, name=name):
                    self.assertEqual([one.arg for one in inside[name].args.args], arguments)

    def test_classes_belong_to_their_modules(self):
        self.assertEqual(programs.Program.__module__, "idlewrites.programs")
        self.assertEqual(lots.Lot.__module__, "idlewrites.lots")
        self.assertEqual(errors.IdleError.__module__, "idlewrites.errors")

    def test_read_is_a_class_method(self):
        self.assertTrue(inspect.ismethod(Program.read))

    def test_arguments_by_name(self):
        parts = [("main", ["a"], [], [("put", "a", 1)])]
        program = Program(parts=parts)
        self.assertEqual(program, Program(parts))
        self.assertEqual(Program.read(text="part main (a) ()\n  put a 1"), program)
        lot = Lot(places=[(0, 0)])
        self.assertEqual(lot, Lot([(0, 0)]))
        self.assertEqual(program.struck(lot=lot), program.struck(lot))


if __name__ == "__main__":
    unittest.main()
