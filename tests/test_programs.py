"""[3], [6] to [9]: programs that are right, and what their methods tell."""

import random
import unittest

from idlewrites.errors import NoPlace
from idlewrites.lots import Lot
from idlewrites.programs import Program
from tests.samples import (
    ALIKE, EVERY_DEED, EVERY_WRITE, GREAT, OBJECTS, SIX_DEEP, as_lists, mixed, program_parts, spoiled, walked,
)

SAMPLES = [EVERY_DEED, ALIKE, SIX_DEEP, *[program_parts(seed) for seed in range(120)]]


def only_tuples(thing):
    """Tell whether a thing is made of tuples, strings and integers."""
    if isinstance(thing, tuple):
        return all(only_tuples(item) for item in thing)
    return type(thing) in (str, int)


class Parts(unittest.TestCase):
    def check(self, program, parts):
        """All that the methods tell about a program of these parts."""
        deeds = walked(parts)
        self.assertEqual(program.parts(), parts)
        self.assertTrue(only_tuples(program.parts()))
        writes = [place for place, deed in deeds if deed[0] in ("put", "ask", "copy")]
        self.assertEqual(program.writes(), writes)
        self.assertEqual(writes, sorted(writes))
        self.assertIs(type(program.writes()), list)
        self.assertTrue(all(only_tuples(place) for place in program.writes()))
        self.assertEqual(program.handed(), parts[-1][1])
        self.assertIs(type(program.handed()), tuple)
        self.assertEqual(len(program), len(deeds))
        for place, deed in deeds:
            self.assertEqual(program[place], deed)
            self.assertEqual(program[list(place)], deed)
            self.assertTrue(only_tuples(program[place]))

    def test_tuples_lists_and_both(self):
        for number, parts in enumerate(SAMPLES):
            with self.subTest(number):
                self.check(Program(parts), parts)
                self.check(Program(as_lists(parts)), parts)
                self.check(Program(mixed(parts, random.Random(number))), parts)

    def test_later_changes_have_no_effect(self):
        for number, parts in enumerate(SAMPLES):
            with self.subTest(number):
                passed = as_lists(parts)
                half = mixed(parts, random.Random(number))
                programs = [Program(passed), Program(half)]
                self.assertEqual(passed, as_lists(parts))
                spoiled(passed)
                spoiled(half)
                for program in programs:
                    self.check(program, parts)
                    self.assertEqual(program, Program(parts))

    def test_what_is_passed_is_not_changed(self):
        for number, parts in enumerate(SAMPLES):
            passed = mixed(parts, random.Random(number))
            shown = repr(passed)
            Program(passed).struck(Program(passed).writes())
            self.assertEqual(repr(passed), shown)

    def test_writes_is_a_new_list_each_time(self):
        program = Program(EVERY_DEED)
        first = program.writes()
        self.assertEqual(first, EVERY_WRITE)
        first.append("spoiled")
        self.assertEqual(program.writes(), EVERY_WRITE)
        self.assertIsNot(program.writes(), program.writes())

    def test_handed_names_are_those_of_the_last_part(self):
        parts = [("p", ["a", "b"], [], []), ("q", ["d", "c"], ["e"], [])]
        self.assertEqual(Program(parts).handed(), ("d", "c"))
        self.assertEqual(Program(parts[:1]).handed(), ("a", "b"))
        self.assertEqual(Program([("p", [], ["a"], [])]).handed(), ())

    def test_len_counts_deeds_at_all_depths(self):
        self.assertEqual(len(Program([("main", [], [], [])])), 0)
        self.assertEqual(len(Program(SIX_DEEP)), 6)
        self.assertEqual(len(Program(EVERY_DEED)), 24)
        self.assertEqual(len(Program(ALIKE)), 8)

    def test_six_parts_of_names_that_are_spelled_alike(self):
        parts = tuple((name, ("a", "abcdefgh"), ("b",), (("fail", name),)) for name in ("a", "b", "f", "e", "d", "c"))
        self.check(Program(parts), parts)

    def test_integers(self):
        for n in (0, 1, -1, GREAT, -GREAT, 10 ** 60):
            self.assertEqual(Program([("m", ["a"], [], [("put", "a", n)])])[0, 0], ("put", "a", n))

    def test_one_cell_may_be_handed_twice_and_a_name_copied_to_itself(self):
        parts = (("p", ("x", "y"), (), ()), ("m", ("a",), (), (("call", "p", ("a", "a")), ("copy", "a", "a"))))
        self.check(Program(parts), parts)

    def test_any_earlier_part_may_be_called(self):
        parts = (
            ("p", ("x",), (), ()),
            ("q", (), (), ()),
            ("m", (), ("t",), (("call", "p", ("t",)), ("call", "q", ()), ("loop", (("call", "p", ("t",)),)))),
        )
        self.check(Program(parts), parts)

    def test_a_stop_at_any_depth_of_a_loop(self):
        deeds = ("stop",),
        for around in (
            lambda inner: (("if", inner, ()),),
            lambda inner: (("if", (), inner),),
            lambda inner: (("try", inner, "w", ()),),
            lambda inner: (("try", (), "w", inner),),
            lambda inner: (("last", inner, ()),),
            lambda inner: (("last", (), inner),),
            lambda inner: (("loop", inner), ("rest",)),
        ):
            deeds = around(deeds)
            parts = (("m", (), (), (("loop", deeds),)),)
            self.check(Program(parts), parts)

    def test_beyond_the_limits(self):
        deep = ()
        for _ in range(60):
            deep = (("loop", deep),)
        names = tuple("abcdefghij")
        parts = tuple((name, names, ("k",), deep) for name in ("a", "b", "c", "d", "e", "f", "g", "h"))
        self.check(Program(parts), parts)
        long = (("m", ("a",), (), (("put", "a", 1),) * 500),)
        self.check(Program(long), long)


class Places(unittest.TestCase):
    def refused(self, program, thing):
        with self.assertRaises(NoPlace) as context:
            program[thing]
        self.assertIs(context.exception.place, thing)

    def test_what_is_no_place_of_a_deed(self):
        for number, parts in enumerate(SAMPLES):
            program = Program(parts)
            places = dict(walked(parts))
            near = [(), (0,), (len(parts),), (len(parts), 0)]
            for place in places:
                near += [place[:-1], place + (0,), place + (2,), place + (0, 0), place[:-1] + (place[-1] + 1,)]
                near += [(-1,) + place[1:], place[:-1] + (-1,), place[:-1] + (place[-1] - 1,), place + (GREAT,)]
                near += [place[1:], place + (1, 0), place[:-1] + (None,), place[:-1] + ([place[-1]],)]
            for thing in near:
                if thing not in [place for place in places if len(place) == len(thing)]:
                    with self.subTest(number, thing=thing):
                        self.refused(program, thing)
                        self.refused(program, list(thing))

    def test_truths_are_no_integers(self):
        program = Program(EVERY_DEED)
        for place, deed in walked(EVERY_DEED):
            for index, item in enumerate(place):
                if item in (0, 1):
                    self.refused(program, place[:index] + (bool(item),) + place[index + 1:])
                    self.refused(program, [*place[:index], bool(item), *place[index + 1:]])

    def test_objects_of_every_kind(self):
        for parts in (EVERY_DEED, SIX_DEEP):
            for thing in OBJECTS:
                with self.subTest(thing=thing):
                    self.refused(Program(parts), thing)

    def test_negative_numbers(self):
        program = Program(EVERY_DEED)
        for thing in ((-1, 0), (0, -1), (1, -1), (1, 9, -2, 0), (1, 9, 0, -1), (-2, 0), [1, 9, 0, -1], -1):
            self.refused(program, thing)

    def test_a_lot_is_no_place(self):
        self.refused(Program(EVERY_DEED), Lot([(0, 0)]))

    def test_a_program_has_no_places_to_iterate_over(self):
        with self.assertRaises(TypeError):
            list(Program(EVERY_DEED))

    def test_deeds_stand_as_in_parts(self):
        program = Program(as_lists(EVERY_DEED))
        self.assertIs(program[(0, 0)], program.parts()[0][3][0])
        self.assertEqual(program[1, 11], ("try", (("fail", "oops"),), "oops", (("copy", "b", "t"),)))
        self.assertEqual(program[1, 11, 0, 0], ("fail", "oops"))
        self.assertEqual(program[1, 11, 1, 0], ("copy", "b", "t"))
        self.assertEqual(program[1, 8], ("call", "turn", ("a", "a")))


def differing():
    """Parts that differ from one another in one thing each, of right programs."""
    base = [
        ["p", ["x"], [], []],
        ["r", ["x"], [], []],
        ["m", ["a", "b"], ["t"], [
            ["put", "a", 1], ["call", "p", ["a"]], ["fail", "w"],
            ["try", [["rest"]], "w", [["rest"]]], ["if", [], [["skip"]]], ["loop", []], ["last", [], []],
        ]],
    ]
    changes = [
        lambda parts: None,
        lambda parts: parts.insert(0, ["z", [], [], []]),
        lambda parts: parts[0].__setitem__(1, ["y"]),
        lambda parts: parts[0].__setitem__(2, ["y"]),
        lambda parts: parts[0][3].append(["rest"]),
        lambda parts: parts[2].__setitem__(0, "n"),
        lambda parts: parts[2].__setitem__(1, ["b", "a"]),
        lambda parts: parts[2].__setitem__(2, ["u"]),
        lambda parts: parts[2].__setitem__(2, []),
        lambda parts: parts[2][3].pop(),
        lambda parts: parts[2][3][0].__setitem__(1, "b"),
        lambda parts: parts[2][3][0].__setitem__(2, 2),
        lambda parts: parts[2][3][0].__setitem__(2, -1),
        lambda parts: parts[2][3].__setitem__(0, ["rest"]),
        lambda parts: parts[2][3][1].__setitem__(2, ["b"]),
        lambda parts: parts[2][3][1].__setitem__(1, "r"),
        lambda parts: parts[2][3][2].__setitem__(1, "v"),
        lambda parts: parts[2][3][3].__setitem__(2, "v"),
        lambda parts: parts[2][3][3][1].__setitem__(0, ["skip"]),
        lambda parts: parts[2][3][3][3].clear(),
        lambda parts: parts[2][3][4].__setitem__(1, [["skip"]]),
        lambda parts: parts[2][3][5][1].append(["stop"]),
        lambda parts: parts[2][3].reverse(),
    ]
    for change in changes:
        parts = as_lists(base)
        change(parts)
        yield parts


class Equality(unittest.TestCase):
    def test_programs_that_differ_in_one_thing(self):
        made = list(differing())
        for i, one in enumerate(made):
            for k, other in enumerate(made):
                with self.subTest(i=i, k=k):
                    self.assertIs(Program(one) == Program(as_lists(other)), i == k)
                    self.assertIs(Program(one) != Program(as_lists(other)), i != k)

    def test_lists_and_tuples_make_equal_programs(self):
        for number, parts in enumerate(SAMPLES):
            one = Program(mixed(parts, random.Random(number)))
            self.assertIs(one == Program(parts), True)
            self.assertIs(one != Program(parts), False)

    def test_a_program_equals_nothing_else(self):
        program = Program(EVERY_DEED)
        for thing in (*OBJECTS, EVERY_DEED, program.parts(), program.text(), Lot(program.writes()), len(program)):
            self.assertIs(program == thing, False)
            self.assertIs(thing == program, False)
            self.assertIs(program != thing, True)


if __name__ == "__main__":
    unittest.main()
