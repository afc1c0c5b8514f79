"""[10]: striking the writes of a lot."""

import itertools
import random
import unittest

from idlewrites.errors import NoWrite
from idlewrites.lots import Lot
from idlewrites.programs import Program
from tests.samples import ALIKE, EVERY_DEED, EVERY_WRITE, OBJECTS, as_lists, program_parts, programs, walked

STAND_INS = {"put": ("rest",), "ask": ("skip",), "copy": ("rest",)}


def struck_parts(parts, places):
    """The parts, as lists, in which the deeds at these places are struck."""
    parts = as_lists(parts)
    for place in places:
        deeds = parts[place[0]][3]
        rest = place[1:]
        while len(rest) > 1:
            deed = deeds[rest[0]]
            deeds = [item for item in deed[1:] if isinstance(item, list)][rest[1]]
            rest = rest[2:]
        deeds[rest[0]] = list(STAND_INS[deeds[rest[0]][0]])
    return parts


class Striking(unittest.TestCase):
    def check(self, program, places):
        """Strike these places in all ways in which a lot may be passed."""
        wanted = Program(struck_parts(program.parts(), places))
        shown = repr(program.parts())
        ways = [Lot(places), list(places), tuple(places), [list(place) for place in places]]
        ways += [tuple(reversed(places)), [*places, *places], [*places, *map(list, places)], Lot([*places, *places])]
        for lot in ways:
            before = repr(lot)
            struck = program.struck(lot)
            self.assertIsInstance(struck, Program)
            self.assertEqual(struck, wanted)
            self.assertEqual(struck.parts(), wanted.parts())
            self.assertEqual(program - lot, wanted)
            if not isinstance(lot, Lot):
                self.assertEqual(repr(lot), before)
        one_by_one = program
        for place in places:
            one_by_one = one_by_one - [place]
        self.assertEqual(one_by_one, wanted)
        self.assertEqual(repr(program.parts()), shown)
        self.assertEqual(wanted.writes(), [place for place in program.writes() if place not in places])
        for place in places:
            self.assertEqual(wanted[place], STAND_INS[program[place][0]])

    def test_every_lot_of_some_writes(self):
        program = Program(EVERY_DEED)
        for many in range(len(EVERY_WRITE) + 1):
            for places in itertools.combinations(EVERY_WRITE, many):
                self.check(program, list(places))

    def test_some_lots_of_many_programs(self):
        for number, program in enumerate([Program(ALIKE), *programs(80)]):
            chance = random.Random(number)
            writes = program.writes()
            with self.subTest(number):
                self.check(program, [])
                self.check(program, writes)
                self.check(program, chance.sample(writes, len(writes) // 2))

    def test_each_word(self):
        program = Program([("m", ["a"], [], [("put", "a", 1), ("ask", "a"), ("copy", "a", "a")])])
        struck = program - [(0, 0), (0, 1), (0, 2)]
        self.assertEqual(struck.parts(), (("m", ("a",), (), (("rest",), ("skip",), ("rest",))),))
        self.assertEqual(len(struck), 3)
        self.assertEqual(struck.writes(), [])

    def test_a_program_is_left_as_it_is(self):
        program = Program(EVERY_DEED)
        program.struck(program.writes())
        program - Lot(program.writes())
        self.assertEqual(program, Program(EVERY_DEED))

    def refused(self, program, lot, thing):
        for call in (lambda: program.struck(lot), lambda: program - lot):
            with self.assertRaises(NoWrite) as context:
                call()
            self.assertEqual(repr(context.exception.place), repr(thing))

    def test_neither_a_lot_nor_a_list(self):
        program = Program(EVERY_DEED)
        for thing in (None, True, False, 0, 1, -1, "", "ab", {}, {(0, 0): 1}):
            self.refused(program, thing, thing)
        with self.assertRaises(NoWrite) as context:
            program.struck(program)
        self.assertIs(context.exception.place, program)

    def test_things_that_are_no_places_of_writes(self):
        program = Program(EVERY_DEED)
        writes = program.writes()
        other = [place for place, deed in walked(EVERY_DEED) if deed[0] not in STAND_INS]
        other += [(), (0,), (1,), (2,), (2, 0), (0, 1), (1, 9), (1, 9, 0), (1, 9, 1), (1, 9, 2, 0), (0, 0, 0, 0), (1, 99)]
        other += [[1, 3], [], [0], (-1, 0), (0, -1), (False, 0), (0, False), [True, 0], (0, 0.5)]
        for thing in [*OBJECTS, *other]:
            with self.subTest(thing=thing):
                self.refused(program, [thing], thing)
                self.refused(program, (thing,), thing)
                self.refused(program, [*writes, thing, None], thing)
                self.refused(program, [writes[0], thing, (9, 9)], thing)

    def test_the_very_thing_is_told(self):
        program = Program(EVERY_DEED)
        for thing in ([1, 3], {}, (0, True), [[]]):
            with self.assertRaises(NoWrite) as context:
                program.struck([(0, 0), thing])
            self.assertIs(context.exception.place, thing)

    def test_a_tuple_of_numbers_is_a_list_of_things(self):
        self.refused(Program(EVERY_DEED), (0, 0), 0)
        self.refused(Program(EVERY_DEED), [1, 0], 1)

    def test_the_first_of_a_lot_in_ascending_order(self):
        program = Program(EVERY_DEED)
        self.refused(program, Lot([(9, 9), (1, 3), (0, 0), (2, 0)]), (1, 3))
        self.refused(program, Lot([(9, 9), ()]), ())
        self.refused(program, Lot([*program.writes(), (1, 9)]), (1, 9))
        self.refused(program, [(9, 9), (1, 3), ()], (9, 9))

    def test_what_is_struck_is_no_write_any_more(self):
        program = Program(EVERY_DEED) - [(0, 0)]
        self.refused(program, [(0, 0)], (0, 0))
        self.refused(program, Lot([(0, 0)]), (0, 0))

    def test_many_lots_with_wrong_places(self):
        chance = random.Random(10)
        for seed in range(200):
            program = Program(program_parts(seed))
            places = [place for place, _ in walked(program.parts())] + [(0,), (), (9, 9)]
            lot = [chance.choice(places) for _ in range(chance.randint(1, 5))]
            wrong = [place for place in lot if place not in program.writes()]
            if wrong:
                self.refused(program, lot, wrong[0])
                self.refused(program, Lot(lot), min(wrong))
            else:
                self.check(program, sorted(set(lot)))


if __name__ == "__main__":
    unittest.main()
