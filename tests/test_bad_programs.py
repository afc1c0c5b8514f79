"""[8]: what makes no program, and the place of the first thing that is wrong."""

import random
import unittest

from idlewrites.errors import BadProgram
from idlewrites.programs import Program
from tests.oracles import first_wrong
from tests.samples import ALIKE, EVERY_DEED, OBJECTS, SIX_DEEP, as_lists, mixed, program_parts

PARTS = [
    ("p", ("x", "y"), ("z",), (("rest",),)),
    ("none", (), (), ()),
]

# Deeds that are wrong in a part with the names a, b and t behind the parts p and none, in no loop.
WRONG_DEEDS = [
    None, 0, True, "rest", "", (), [], {}, {"rest": 1}, {0: "rest"}, (("rest",),), ([],), ({},), (None,), (1,), (True,),
    ("",), ("Rest",), ("rest ",), ("write",), ("part",), ("else",), ("catch",), ("then",), ("restrest",),
    ("rest", "a"), ("rest", ()), ("skip", None), ("leave", 1), ("stop",), ["stop"], ("stop", 1),
    ("put",), ("put", "a"), ("put", "a", 1, 1), ("put", "a", True), ("put", "a", False), ("put", "a", None),
    ("put", "a", "1"), ("put", "a", (1,)), ("put", "a", []), ("put", "a", {}), ("put", "c", 1), ("put", 1, "a"),
    ("put", "A", 1), ("put", "", 1), ("put", None, 1), ("put", True, 1), ("put", [], 1), ("put", {}, 1),
    ("put", ("a",), 1), ("put", "x", 1), ("put", "ab", 1),
    ("ask",), ("ask", "c"), ("ask", "a", "a"), ("ask", ["a"]), ("ask", {"a": 1}), ("ask", 0),
    ("copy", "a"), ("copy", "a", "c"), ("copy", "c", "a"), ("copy", "a", "b", "t"), ("copy", "a", ["b"]),
    ("copy", "a", 1), ("copy", {}, "a"),
    ("point", "a"), ("point", "a", "c"), ("point", "c", "a"), ("point", "a", "b", "a"), ("point", "a", None),
    ("fresh",), ("fresh", "c"), ("fresh", "a", "b"), ("fresh", ()), ("fresh", False),
    ("tell",), ("tell", "c"), ("tell", "a", "b"), ("tell", 1), ("tell", [["a"]]),
    ("call",), ("call", "p"), ("call", "p", "a", "b"), ("call", "p", ("a", "b"), ()), ("call", "p", ("a",)),
    ("call", "p", ("a", "b", "t")), ("call", "p", ("a", "x")), ("call", "p", ("a", 1)), ("call", "p", ("a", ["b"])),
    ("call", "p", ()), ("call", "p", None), ("call", "p", "ab"), ("call", "p", {"a": 1, "b": 2}), ("call", "main", ()),
    ("call", "later", ()), ("call", "nowhere", ()), ("call", None, ()), ("call", ["none"], ()), ("call", {}, ()),
    ("call", 0, ("a", "b")), ("call", "none", ("a",)), ("call", "none", ""), ("call", "none", {}), ("call", (), "none"),
    ("if",), ("if", ()), ("if", (), (), ()), ("if", (), None), ("if", None, ()), ("if", "", ()), ("if", (), {}),
    ("if", {}, ()), ("if", (), 0), ("if", (), "else", ()),
    ("loop",), ("loop", (), ()), ("loop", None), ("loop", "stop"), ("loop", {}), ("loop", True),
    ("fail",), ("fail", "w", "w"), ("fail", 1), ("fail", ""), ("fail", "W"), ("fail", "ninechars"), ("fail", None),
    ("fail", ["w"]), ("fail", {}), ("fail", "a b"), ("fail", "w\n"), ("fail", "a1"), ("fail", True),
    ("try",), ("try", ()), ("try", (), "w"), ("try", (), "w", (), ()), ("try", "w", (), ()), ("try", (), (), "w"),
    ("try", (), "", ()), ("try", (), None, ()), ("try", (), "ninechars", ()), ("try", (), ["w"], ()),
    ("try", None, "w", ()), ("try", (), "w", None), ("try", {}, "w", ()), ("try", (), "w", "w"), ("try", (), 1, ()),
    ("last",), ("last", ()), ("last", (), (), ()), ("last", None, ()), ("last", (), None), ("last", "", ""),
    ("last", {}, ()),
]

# The same part in good order, and each way in which one can be wrong.
WRONG_PARTS = [
    None, 0, True, "main", "", (), [], {}, {"main": ()}, ("main",), ("main", (), ()), ("main", (), (), (), ()),
    (None, (), (), ()), (1, (), (), ()), ("", (), (), ()), ("Main", (), (), ()), ("ninechars", (), (), ()),
    ("a b", (), (), ()), (["main"], (), (), ()), ({}, (), (), ()), (True, (), (), ()), ("main\n", (), (), ()),
    ("main", None, (), ()), ("main", "ab", (), ()), ("main", {}, (), ()), ("main", {"a": 1}, (), ()), ("main", 0, (), ()),
    ("main", ("a", None), (), ()), ("main", ("A",), (), ()), ("main", ("",), (), ()), ("main", ("ninechars",), (), ()),
    ("main", (["a"],), (), ()), ("main", ({},), (), ()), ("main", (1,), (), ()), ("main", (True,), (), ()),
    ("main", (), None, ()), ("main", (), "ab", ()), ("main", (), {}, ()), ("main", (), {"a": 1}, ()), ("main", (), 0, ()),
    ("main", (), ("a", None), ()), ("main", (), ("A",), ()), ("main", (), ("",), ()), ("main", (), ("ninechars",), ()),
    ("main", (), (["a"],), ()), ("main", (), ({},), ()), ("main", (), (1,), ()), ("main", (), (("a", "b"),), ()),
    ("main", (), (), None), ("main", (), (), "rest"), ("main", (), (), {}), ("main", (), (), 0), ("main", (), (), ""),
    ("main", ("a", "a"), (), ()), ("main", (), ("a", "a"), ()), ("main", ("a",), ("a",), ()),
    ("main", ("a", "b"), ("c", "a"), ()), ("p", (), (), ()), ("none", ("a",), (), ()),
]


class BadPrograms(unittest.TestCase):
    def refused(self, parts, place):
        self.assertEqual(first_wrong(parts), place)
        for passed in (parts, as_lists(parts), mixed(parts, random.Random(1))):
            with self.assertRaises(BadProgram) as context:
                Program(passed)
            self.assertEqual(context.exception.place, place)
            self.assertIs(type(context.exception.place), tuple)

    def main(self, body):
        return [*PARTS, ("main", ("a", "b"), ("t",), body), ("later", (), (), ())]

    def test_no_list_of_parts(self):
        for thing in (None, 0, True, "", "main", {}, {0: PARTS[0]}, (), []):
            with self.subTest(thing=thing):
                self.refused(thing, (0,))

    def test_objects_of_every_kind(self):
        for thing in OBJECTS:
            with self.subTest(thing=thing):
                self.refused(thing, (0,))
                self.refused([thing], (0,))
                self.refused([*PARTS, thing], (2,))
                self.refused([*PARTS, ("main", (), (), (thing,))], (2, 0))
                if not isinstance(thing, (tuple, list)):
                    self.refused([*PARTS, ("main", (), (), thing)], (2,))

    def test_wrong_parts(self):
        for part in WRONG_PARTS:
            with self.subTest(part=part):
                self.refused([*PARTS, part], (2,))
                self.refused([*PARTS, part, ("later", (), (), ())], (2,))
                self.refused([*PARTS, ("later", (), (), ()), part, None], (3,))

    def test_a_part_is_wrong_before_its_deeds(self):
        self.refused([("p", ("a", "a"), (), (None,))], (0,))
        self.refused([("p", (), (), ()), ("p", (), (), (("tell", "a"),))], (1,))
        self.refused([("p", (), (), (("rest",), ("tell", "a"))), ("p", (), (), ())], (0, 1))
        self.refused([("p", (), (), ()), ("q", (), (), (("stop",),)), None], (1, 0))

    def test_wrong_deeds_at_any_depth(self):
        for deed in WRONG_DEEDS:
            with self.subTest(deed=deed):
                self.refused(self.main([deed]), (2, 0))
                self.refused(self.main([("rest",), deed, None]), (2, 1))
                self.refused(self.main([("if", [], [("rest",), deed])]), (2, 0, 1, 1))
                self.refused(self.main([("if", [deed], [None])]), (2, 0, 0, 0))
                self.refused(self.main([("try", [("rest",)], "w", [deed])]), (2, 0, 1, 0))
                self.refused(self.main([("try", [deed], "w", [])]), (2, 0, 0, 0))
                self.refused(self.main([("last", [], [("last", [deed], [])])]), (2, 0, 1, 0, 0, 0))
                if deed not in (("stop",), ["stop"]):
                    self.refused(self.main([("loop", [("rest",), deed])]), (2, 0, 0, 1))

    def test_a_deed_is_wrong_before_those_in_its_lists(self):
        for deed in (
            ("if", [None], None), ("if", None, [None]), ("loop", [None], 1), ("try", [None], "W", [None]),
            ("try", [None], "w", None), ("last", [None], {}), ("last", [None]), ("if", [None], [None], [None]),
        ):
            self.refused(self.main([deed]), (2, 0))
            self.refused(self.main([("loop", [deed, None])]), (2, 0, 0, 0))

    def test_the_first_of_several(self):
        right = ("rest",)
        self.refused(self.main([right, ("if", [right, None], [None]), None]), (2, 1, 0, 1))
        self.refused(self.main([right, ("if", [right, right], [right, None]), None]), (2, 1, 1, 1))
        self.refused(self.main([("if", [], []), ("stop",), ("loop", [None])]), (2, 1))
        self.refused(self.main([("loop", [("loop", []), ("stop", 1)]), None]), (2, 0, 0, 1))
        self.refused([("a", (), (), (right,)), ("b", (), (), (("call", "c", ()), None)), ("c", (), (), ())], (1, 0))

    def test_a_stop_needs_a_loop_around_it(self):
        self.refused(self.main([("loop", [("stop",)]), ("stop",)]), (2, 1))
        self.refused(self.main([("if", [("loop", [])], [("stop",)])]), (2, 0, 1, 0))
        self.refused([("p", (), (), (("stop",),)), ("m", (), (), (("loop", (("call", "p", ()),)),))], (0, 0))

    def test_names_of_another_part(self):
        self.refused(self.main([("tell", "z")]), (2, 0))
        self.refused([("p", ("a",), (), (("tell", "b"),)), ("m", ("b",), (), ())], (0, 0))
        self.refused([("p", ("a",), (), ()), ("m", ("b",), (), (("call", "p", ("a",)),))], (1, 0))

    def test_a_part_does_not_call_itself_or_a_later_one(self):
        self.refused([("p", (), (), (("call", "p", ()),))], (0, 0))
        self.refused([("p", (), (), (("call", "q", ()),)), ("q", (), (), ())], (0, 0))
        self.refused([("p", (), (), ()), ("q", (), (), (("loop", (("call", "q", ()),)),))], (1, 0, 0, 0))

    def test_many_changes_of_right_programs(self):
        chance = random.Random(8)
        pool = [*OBJECTS, *WRONG_DEEDS, *WRONG_PARTS, "rest", "put", "main", "x", ("rest",), ("loop", []), ["a", "b"]]
        found = 0
        for number in range(4000):
            sample = chance.choice((EVERY_DEED, ALIKE, SIX_DEEP, program_parts(number)))
            parts = as_lists(sample)
            for _ in range(chance.randint(1, 3)):
                change(parts, chance, pool)
            place = first_wrong(parts)
            if place is None:
                self.assertEqual(as_lists(Program(mixed(parts, chance)).parts()), as_lists(parts))
            else:
                found += 1
                self.refused(parts, place)
        self.assertGreater(found, 2000)


def change(thing, chance, pool):
    """Change something at some depth of a list."""
    while True:
        inner = [item for item in thing if isinstance(item, list) and item]
        if not inner or chance.random() < 0.2:
            break
        thing = chance.choice(inner)
    at = chance.randrange(len(thing)) if thing else 0
    what = chance.randrange(5)
    new = as_lists(chance.choice(pool))
    if what == 0 or not thing:
        thing.insert(at, new)
    elif what == 1:
        thing[at] = new
    elif what == 2:
        del thing[at]
    elif what == 3:
        thing.insert(at, as_lists(thing[at]))
    else:
        other = chance.randrange(len(thing))
        thing[at], thing[other] = thing[other], thing[at]


if __name__ == "__main__":
    unittest.main()
