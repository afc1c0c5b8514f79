"""[18]: lots."""

import itertools
import random
import unittest

from idlewrites.errors import BadLot
from idlewrites.lots import Lot
from idlewrites.programs import Program
from tests.samples import EVERY_DEED, GREAT, OBJECTS, as_lists

PLACES = [(), (0,), (0, 0), (0, 1), (1,), (1, 0, 5), (2, 10), (10, 2), (GREAT,)]

SMALL = [(), (0,), (0, 1), (2,)]
SUBSETS = [list(places) for many in range(5) for places in itertools.combinations(SMALL, many)]


class Lots(unittest.TestCase):
    def check(self, lot, places):
        """All that a lot tells; places are ascending and without doubles."""
        self.assertEqual(lot.places, tuple(places))
        self.assertIs(type(lot.places), tuple)
        self.assertTrue(all(type(place) is tuple for place in lot.places))
        self.assertEqual(len(lot), len(places))
        self.assertEqual(lot, Lot(places))

    def test_any_order_and_doubles(self):
        chance = random.Random(18)
        for many in range(len(PLACES) + 1):
            for places in itertools.combinations(PLACES, many):
                passed = [*places, *chance.choices(places, k=3)] if places else []
                chance.shuffle(passed)
                self.check(Lot(passed), sorted(places))
                self.check(Lot(tuple(passed)), sorted(places))
                self.check(Lot([chance.choice((list, tuple))(place) for place in passed]), sorted(places))

    def test_no_places(self):
        self.check(Lot([]), [])
        self.check(Lot(()), [])
        self.check(Lot([()]), [()])
        self.check(Lot([[], ()]), [()])

    def test_numbers_are_ordered_as_numbers(self):
        self.check(Lot([(10,), (9, 9), (9,), (1, 0), (0, 11), (0, 2)]), [(0, 2), (0, 11), (1, 0), (9,), (9, 9), (10,)])

    def test_what_is_passed_stays_as_it_is(self):
        passed = [[2, 0], (1,), [2, 0]]
        lot = Lot(passed)
        self.assertEqual(passed, [[2, 0], (1,), [2, 0]])
        passed[0].append(7)
        passed[0][0] = "spoiled"
        passed.append((5,))
        self.check(lot, [(1,), (2, 0)])
        self.assertIn((2, 0), lot)
        self.assertNotIn((5,), lot)

    def test_many_places(self):
        places = [(part, index) for part in range(6) for index in range(100)]
        self.check(Lot(places[::-1]), places)

    def test_in_tells_of_any_object(self):
        for places in ([], PLACES, SMALL, [(0, 0)], [(1,), (0, 1)]):
            lot = Lot(places)
            for place in [*PLACES, (3, 3), (0, 0, 0), (1, 1)]:
                self.assertIs(place in lot, place in places)
                self.assertIs(list(place) in lot, place in places)
                self.assertIs(place not in lot, place not in places)
            for thing in OBJECTS:
                with self.subTest(places=places, thing=thing):
                    known = thing in ((), [], (GREAT, 0)) and tuple(thing) in places
                    self.assertIs(thing in lot, known)

    def test_a_truth_does_not_stand_for_an_integer(self):
        lot = Lot([(0,), (1,), (0, 1), (1, 0)])
        for thing in ((False,), (True,), [False], [True], (False, 1), (0, True), [0, True], (True, 0), [1, False]):
            self.assertIs(thing in lot, False)
        for thing in ((-1,), (0.0,), (1.0,), ((0,),), [[0]], "0", {0: 1}, lot):
            self.assertIs(thing in lot, False)

    def refused(self, places, index):
        with self.assertRaises(BadLot) as context:
            Lot(places)
        self.assertEqual(context.exception.index, index)
        self.assertIs(type(context.exception.index), int)

    def test_no_list_of_places(self):
        for thing in (None, True, False, 0, 1, "", "ab", {}, {(0,): 1}, Lot([]), Lot([(0,)])):
            with self.subTest(thing=thing):
                self.refused(thing, 0)

    def test_the_first_wrong_item(self):
        wrong = [
            None, True, False, 0, 1, -1, "", "a", {}, {0: 1}, (-1,), [0, -1], (0, True), [False], (None,), ("a",), ["0"],
            ((0,),), [[0]], (0, (1,)), (0, {}), (GREAT, -GREAT), Lot([(0,)]), (0.0,),
        ]
        for thing in wrong:
            with self.subTest(thing=thing):
                self.refused([thing], 0)
                self.refused((thing,), 0)
                self.refused([(0, 0), thing], 1)
                self.refused([(5,), [], (0,), thing, None, (1,)], 3)
                self.refused([(1,), (1,), thing, thing], 2)

    def test_objects_of_every_kind(self):
        for thing in OBJECTS:
            right = isinstance(thing, (tuple, list)) and all(type(item) is int and item >= 0 for item in thing)
            if right:
                self.check(Lot([thing]), [tuple(thing)])
            else:
                self.refused([(0,), thing], 1)
        self.refused({"a": 1}, 0)
        self.refused((0, 0), 0)
        self.refused([[0, 0], 0], 1)


class Joins(unittest.TestCase):
    def test_joins_and_comparisons(self):
        for one, other in itertools.product(SUBSETS, SUBSETS):
            with self.subTest(one=one, other=other):
                a, b = Lot(one[::-1]), Lot(as_lists(other))
                first, second = set(one), set(other)
                for joined, wanted in (
                    (a | b, first | second), (a & b, first & second), (a - b, first - second), (a ^ b, first ^ second),
                ):
                    self.assertIsInstance(joined, Lot)
                    self.assertEqual(joined.places, tuple(sorted(wanted)))
                    self.assertEqual(len(joined), len(wanted))
                    for place in SMALL:
                        self.assertIs(place in joined, place in wanted)
                self.assertIs(a <= b, first <= second)
                self.assertIs(a < b, first < second)
                self.assertIs(a >= b, first >= second)
                self.assertIs(a > b, first > second)
                self.assertIs(a == b, first == second)
                self.assertIs(a != b, first != second)
                self.assertEqual(a.places, tuple(sorted(first)))
                self.assertEqual(b.places, tuple(sorted(second)))

    def test_joins_of_great_lots(self):
        a = Lot([(0, index) for index in range(60)])
        b = Lot([(0, index) for index in range(30, 90)])
        self.assertEqual((a | b).places, tuple((0, index) for index in range(90)))
        self.assertEqual((a & b).places, tuple((0, index) for index in range(30, 60)))
        self.assertEqual((a - b).places, tuple((0, index) for index in range(30)))
        self.assertEqual((a ^ b).places, tuple((0, index) for index in [*range(30), *range(60, 90)]))

    def test_a_lot_equals_nothing_else(self):
        for lot in (Lot([]), Lot([(0, 0)]), Lot(PLACES)):
            for thing in (*OBJECTS, lot.places, list(lot.places), set(lot.places), len(lot), Program(EVERY_DEED)):
                self.assertIs(lot == thing, False)
                self.assertIs(thing == lot, False)
                self.assertIs(lot != thing, True)

    def test_writes_of_a_program_make_a_lot(self):
        program = Program(EVERY_DEED)
        self.assertEqual(Lot(program.writes()).places, tuple(program.writes()))

    def test_other_objects_are_not_joined(self):
        lot = Lot([(0,)])
        for thing in (None, 1, [(0,)], ((0,),), {(0,)}):
            for call in (
                lambda: lot | thing, lambda: lot & thing, lambda: lot - thing, lambda: lot ^ thing,
                lambda: lot <= thing, lambda: lot < thing, lambda: lot >= thing, lambda: lot > thing,
            ):
                with self.assertRaises(TypeError):
                    call()


if __name__ == "__main__":
    unittest.main()
