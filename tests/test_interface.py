"""[49]: each name stands in its file, each method in the body of its class, with its arguments."""

import ast
import inspect
import pathlib
import unittest

from idlewrites import choosing, errors, judging, lots, meetings, papers, playing, programs, promising, seeing
from idlewrites.lots import Lot
from idlewrites.meetings import Meeting
from idlewrites.programs import Program

PACKAGE = pathlib.Path(__file__).resolve().parent.parent / "idlewrites"

METHODS = {
    ("programs", "Program"): {
        "__init__": ["self", "parts"],
        "parts": ["self"],
        "writes": ["self"],
        "handed": ["self"],
        "struck": ["self", "lot"],
        "text": ["self"],
        "read": ["cls", "text"],
        "__sub__": ["self", "other"],
        "__len__": ["self"],
        "__getitem__": ["self", "at"],
        "__eq__": ["self", "other"],
    },
    ("meetings", "Meeting"): {
        "__init__": ["self", "blocks"],
        "one": ["self", "name", "other"],
        "__and__": ["self", "other"],
        "__or__": ["self", "other"],
        "__le__": ["self", "other"],
        "__lt__": ["self", "other"],
        "__ge__": ["self", "other"],
        "__gt__": ["self", "other"],
        "__eq__": ["self", "other"],
        "__len__": ["self"],
    },
    ("playing", "Talk"): {
        "__eq__": ["self", "other"],
    },
    ("judging", "Parting"): {},
    ("seeing", "Sight"): {},
    ("lots", "Lot"): {
        "__init__": ["self", "places"],
        "__or__": ["self", "other"],
        "__and__": ["self", "other"],
        "__sub__": ["self", "other"],
        "__xor__": ["self", "other"],
        "__le__": ["self", "other"],
        "__lt__": ["self", "other"],
        "__ge__": ["self", "other"],
        "__gt__": ["self", "other"],
        "__eq__": ["self", "other"],
        "__contains__": ["self", "thing"],
        "__len__": ["self"],
    },
}

# The functions of each file, with their arguments; those behind the bar may be left out.
FUNCTIONS = {
    ("meetings", "meetings"): "names",
    ("playing", "play"): "program meeting numbers answers",
    ("playing", "deeds"): "program meeting numbers answers",
    ("judging", "alike"): "one other | promises",
    ("judging", "good_meetings"): "one other",
    ("judging", "parting"): "one other | promises",
    ("choosing", "is_free"): "program lot | promises",
    ("choosing", "greatest_lots"): "program | promises",
    ("choosing", "bars"): "program | promises",
    ("choosing", "goes_along"): "program | promises",
    ("choosing", "spared"): "program | promises",
    ("promising", "least_promises"): "one other",
    ("promising", "breaks"): "one other promises",
    ("seeing", "seen"): "program place | promises",
    ("seeing", "unseen"): "program | promises",
    ("papers", "paper"): "one other | promises",
    ("papers", "is_paper"): "one other thing | promises",
}

MODULES = {
    "choosing": choosing, "judging": judging, "meetings": meetings, "papers": papers, "playing": playing,
    "promising": promising, "seeing": seeing,
}

ATTRIBUTES = {
    "Meeting": "names blocks code",
    "Talk": "told way left used",
    "Parting": "meeting numbers answers talks",
    "Sight": "meeting numbers answers talk",
    "Lot": "places",
}


class Interface(unittest.TestCase):
    def test_functions_stand_in_their_files(self):
        for (file, name), wanted in FUNCTIONS.items():
            with self.subTest(name):
                tree = ast.parse((PACKAGE / f"{file}.py").read_text(encoding="utf-8"))
                (found,) = [node for node in tree.body if isinstance(node, ast.FunctionDef) and node.name == name]
                needed, _, optional = wanted.partition(" | ")
                self.assertEqual([one.arg for one in found.args.args], [*needed.split(), *optional.split()])
                self.assertEqual([ast.unparse(value) for value in found.args.defaults], ["()"] * len(optional.split()))
                function = getattr(MODULES[file], name)
                self.assertEqual(function.__module__, f"idlewrites.{file}")
        self.assertTrue(inspect.isgeneratorfunction(playing.deeds))

    def test_attributes_are_set_on_each_object(self):
        program = Program([("main", ["a"], [], [("put", "a", 1)])])
        run = judging.parting(program, program - [(0, 0)])
        sight = seeing.seen(program, (0, 0))
        for thing in (run, run.meeting, *run.talks, Meeting([]), Lot([]), sight, sight.talk):
            for name in ATTRIBUTES[thing.__class__.__name__].split():
                self.assertIn(name, vars(thing))

    def test_methods_stand_in_the_body_of_their_class(self):
        for (file, word), methods in METHODS.items():
            tree = ast.parse((PACKAGE / f"{file}.py").read_text(encoding="utf-8"))
            (found,) = [node for node in tree.body if isinstance(node, ast.ClassDef) and node.name == word]
            inside = {node.name: node for node in found.body if isinstance(node, ast.FunctionDef)}
            for name, arguments in methods.items():
                with self.subTest(word, name=name):
                    self.assertEqual([one.arg for one in inside[name].args.args], arguments)

    def test_classes_belong_to_their_modules(self):
        self.assertEqual(programs.Program.__module__, "idlewrites.programs")
        self.assertEqual(lots.Lot.__module__, "idlewrites.lots")
        self.assertEqual(meetings.Meeting.__module__, "idlewrites.meetings")
        self.assertEqual(playing.Talk.__module__, "idlewrites.playing")
        self.assertEqual(judging.Parting.__module__, "idlewrites.judging")
        self.assertEqual(seeing.Sight.__module__, "idlewrites.seeing")
        self.assertEqual(errors.IdleError.__module__, "idlewrites.errors")

    def test_read_is_a_class_method(self):
        self.assertTrue(inspect.ismethod(Program.read))

    def test_arguments_by_name(self):
        parts = [("main", ["a"], [], [("put", "a", 1)])]
        program = Program(parts=parts)
        self.assertEqual(program, Program(parts))
        self.assertEqual(Program.read(text="part main (a) ()\n  put a 1"), program)
        lot = Lot(places=[(0, 0)])
        self.assertEqual(lot, Lot([(0, 0)]))
        self.assertEqual(program.struck(lot=lot), program.struck(lot))
        meeting = Meeting(blocks=[["a"], ["b"]])
        self.assertEqual(meetings.meetings(names=["a", "b"])[1], meeting)
        self.assertIs(meeting.one(other="a", name="b"), False)

    def test_arguments_of_functions_by_name(self):
        program = Program([("main", ["a", "b"], [], [("put", "a", 1), ("put", "a", 1), ("put", "b", 2)])])
        struck, promises = program - [(0, 0)], [("never", "a", "b")]
        table = papers.paper(program, struck, promises)
        for called, wanted in (
            (choosing.is_free(promises=promises, lot=[(0, 0)], program=program), True),
            (choosing.greatest_lots(promises=promises, program=program), [Lot([(0, 0)]), Lot([(0, 1)])]),
            (choosing.bars(promises=promises, program=program), [((0, 0), (0, 1))]),
            (choosing.goes_along(promises=promises, program=program), []),
            (choosing.spared(promises=promises, program=program), struck),
            (promising.least_promises(other=struck, one=program), [()]),
            (promising.breaks(promises=promises, other=struck, one=program), [None]),
            (seeing.seen(promises=promises, place=(0, 0), program=program), None),
            (seeing.unseen(promises=promises, program=program), [(0, 0)]),
            (papers.paper(promises=promises, other=struck, one=program), table),
            (papers.is_paper(promises=promises, thing=table, other=struck, one=program), True),
            (judging.alike(promises=promises, other=struck, one=program), True),
            (judging.parting(promises=promises, other=struck, one=program), None),
            (judging.good_meetings(other=struck, one=program), meetings.meetings(["a", "b"])),
        ):
            self.assertEqual(called, wanted)

    def test_nothing_else_stands_in_the_folder(self):
        for path in PACKAGE.rglob("*"):
            self.assertTrue(path.suffix == ".py" or "__pycache__" in path.parts, path)


if __name__ == "__main__":
    unittest.main()
