"""[29] to [33]: free lots, the greatest of them, bars, writes that go along, and what is spared."""

import itertools
import random
import unittest

from idlewrites.choosing import bars, goes_along, greatest_lots, is_free, spared
from idlewrites.errors import BadPromise, NoWrite, TooMany
from idlewrites.judging import alike
from idlewrites.lots import Lot
from idlewrites.programs import Program
from tests.mates import judged_parts, respelled, some_promises
from tests.samples import EVERY_DEED, EVERY_WRITE, OBJECTS, TURN, as_lists, program_parts
from tests.second import TooLong
from tests.tellings import changed, greatest_of, lots_of, pairs_by, slow_free, struck_parts, writes_of

NEVER = ("never", "a", "b")
ALWAYS = ("always", "a", "b")


def main_of(body, handed=("a", "b"), own=("t",)):
    return Program([("main", handed, own, body)])


def places(lots):
    return [lot.places for lot in lots]


def some_programs(count, most, seed=0, **sizes):
    """Tuples (parts, promises) of programs with at least one write and at most so many."""
    number = seed * 100003
    while count:
        number += 1
        chance = random.Random(number)
        parts = judged_parts(chance, **sizes)
        if number % 3 == 0:
            parts = respelled(parts)
        if number % 2:
            # Some writes stand twice, so that they bar each other.
            parts = changed(parts, lambda place, deed: [deed] * chance.choice((1, 1, 2)))
        if 1 <= len(writes_of(parts)) <= most:
            count -= 1
            yield parts, some_promises(chance, parts[-1][1])


class Free(unittest.TestCase):
    PROGRAM = main_of([("copy", "a", "b"), ("copy", "a", "b"), ("tell", "a"), ("if", [("ask", "t")], [])])

    def test_lots_of_each_kind(self):
        for lot, free in (
            ([], True), ((), True), ([(0, 0)], True), ([(0, 1)], True), ([(0, 0), (0, 1)], False), ([(0, 3, 0, 0)], True),
            ([(0, 3, 0, 0), (0, 1)], True), ([(0, 1), (0, 1)], True), ([[0, 1], (0, 0), [0, 1]], False), (([0, 0],), True),
            (((0, 1), (0, 0)), False),
        ):
            with self.subTest(lot=lot):
                self.assertIs(is_free(self.PROGRAM, lot), free)
                self.assertIs(is_free(self.PROGRAM, Lot(lot)), free)
                self.assertIs(is_free(self.PROGRAM, as_lists(lot)), free)
                self.assertIs(is_free(self.PROGRAM, lot, [ALWAYS]), True)
                self.assertIs(is_free(self.PROGRAM, lot, [NEVER]), free)

    def test_the_empty_lot_is_free(self):
        for parts, promises in some_programs(60, 20):
            self.assertIs(is_free(Program(parts), [], promises), True)
            self.assertIs(is_free(Program(parts), Lot([])), True)

    def test_against_alike_and_the_second_telling(self):
        told = [0, 0]
        for parts, promises in some_programs(150, 12, 1):
            program, chance = Program(parts), random.Random(str(parts))
            writes = program.writes()
            for _ in range(3):
                lot = chance.choices(writes, k=chance.randint(0, 4))
                free = is_free(program, lot, promises)
                self.assertIs(free, is_free(program, Lot(lot), promises))
                self.assertIs(free, alike(program, program - lot, promises))
                self.assertEqual((program - lot).parts(), struck_parts(parts, lot))
                try:
                    self.assertIs(free, slow_free(parts, lot, promises, 3000))
                    told[free] += 1
                except TooLong:
                    continue
        self.assertGreater(min(told), 80)

    def no_write(self, lot, place):
        for promises in ((), ["wrong"], None):
            with self.assertRaises(NoWrite) as context:
                is_free(self.PROGRAM, lot, promises)
            self.assertEqual(context.exception.place, place)
            self.assertIs(type(context.exception.place), type(place))

    def test_no_writes(self):
        self.no_write([(0, 0), (0, 2), (9,)], (0, 2))
        self.no_write([(0, 2), (0, 0)], (0, 2))
        self.no_write([[0, 3], (0, 2)], [0, 3])
        # Of a Lot it is the first one in ascending order.
        self.no_write(Lot([(9,), (0, 2), (0, 0)]), (0, 2))
        self.no_write(Lot([(0, 3), (), (0, 2)]), ())
        for thing in OBJECTS:
            with self.subTest(thing=thing):
                self.no_write([(0, 0), thing], thing)
                if not isinstance(thing, (list, tuple)):
                    self.no_write(thing, thing)
        with self.assertRaises(NoWrite) as context:
            is_free(self.PROGRAM, self.PROGRAM)
        self.assertIs(context.exception.place, self.PROGRAM)
        with self.assertRaises(BadPromise):
            is_free(self.PROGRAM, [(0, 0)], ["wrong"])


class Greatest(unittest.TestCase):
    def told(self, program, promises=()):
        """The places of the greatest lots, which are new Lots in a new list."""
        found = greatest_lots(program, promises)
        self.assertIs(type(found), list)
        self.assertTrue(all(isinstance(lot, Lot) for lot in found))
        told = places(found)
        found.clear()
        self.assertEqual(places(greatest_lots(program, promises)), told)
        return told

    def check(self, parts, promises):
        program = Program(parts)
        free = [lot for lot in lots_of(program.writes()) if alike(program, program - list(lot), promises)]
        told = self.told(program, promises)
        self.assertEqual(told, greatest_of(free))
        self.assertEqual(spared(program, promises), program - list(told[0]))
        self.assertEqual(spared(program, promises).parts(), struck_parts(parts, told[0]))
        self.assertTrue(all(is_free(program, lot, promises) for lot in greatest_lots(program, promises)))
        return len(told)

    def test_all_free_lots_that_lie_in_no_greater_one(self):
        several = 0
        for parts, promises in some_programs(250, 7, 2):
            several += self.check(parts, promises) > 1
        self.assertGreater(several, 10)

    def test_seven_writes(self):
        found = 0
        for parts, promises in some_programs(400, 7, 3, room=20):
            if len(writes_of(parts)) == 7 and found < 25:
                found += 1
                self.check(parts, promises)
        self.assertEqual(found, 25)

    def test_against_the_second_telling(self):
        for parts, promises in some_programs(50, 5, 4, room=8):
            free = [lot for lot in lots_of(writes_of(parts)) if slow_free(parts, lot, promises)]
            self.assertEqual(self.told(Program(parts), promises), greatest_of(free))

    def test_their_order(self):
        # Two of three like puts may go, in each way, and each put of t.
        body = [("put", "a", 1), ("put", "t", 3), ("put", "a", 1), ("put", "a", 1)]
        self.assertEqual(
            self.told(main_of(body)), [((0, 0), (0, 1), (0, 2)), ((0, 0), (0, 1), (0, 3)), ((0, 1), (0, 2), (0, 3))],
        )
        # A lot of two, and lots of one that do not go with them.
        body = [("put", "a", 1), ("if", [("put", "a", 1)], [("put", "a", 1)]), ("tell", "a")]
        self.assertEqual(self.told(main_of(body)), [((0, 1, 0, 0), (0, 1, 1, 0)), ((0, 0),)])

    def test_no_writes(self):
        self.assertEqual(self.told(main_of([("tell", "a")])), [()])
        self.assertEqual(self.told(main_of([("put", "a", 1)])), [()])
        self.assertEqual(self.told(main_of([("put", "t", 1)])), [((0, 0),)])

    def test_promises(self):
        program = main_of([("put", "a", 1), ("put", "b", 2), ("tell", "a")])
        self.assertEqual(self.told(program), [()])
        self.assertEqual(self.told(program, [ALWAYS]), [((0, 0),)])
        self.assertEqual(self.told(program, [NEVER]), [()])
        # No meeting keeps them, so all lots are free.
        self.assertEqual(self.told(program, [ALWAYS, NEVER]), [((0, 0), (0, 1))])
        self.assertEqual(spared(program, [ALWAYS, NEVER]).writes(), [])

    def test_all_lots_under_promises_that_no_meeting_keeps(self):
        parts = ("a", "b", "c")
        promises = [("always", "a", "b"), ("always", "b", "c"), ("never", "a", "c")]
        program = main_of([("put", name, number) for number, name in enumerate("abcabca")] + [("tell", "a")], parts)
        self.assertEqual(self.told(program, promises), [tuple(program.writes())])
        self.assertEqual(bars(program, promises), [])
        self.assertEqual(goes_along(program, promises), [])
        self.assertLess(len(self.told(program)[0]), 7)

    def test_too_many(self):
        for many in (8, 9, 30):
            program = main_of([("put", "t", number) for number in range(many)] + [("tell", "t")])
            for function in (greatest_lots, spared):
                for promises in ((), ["wrong"], None):
                    with self.assertRaises(TooMany) as context:
                        function(program, promises)
                    self.assertEqual(context.exception.n, many)
        program = main_of([("put", "t", number) for number in range(7)] + [("tell", "t")])
        self.assertEqual(self.told(program), [tuple((0, number) for number in range(6))])
        for function in (greatest_lots, spared):
            with self.assertRaises(BadPromise):
                function(program, ["wrong"])
        with self.assertRaises(TooMany) as context:
            greatest_lots(Program(EVERY_DEED))
        self.assertEqual(context.exception.n, len(EVERY_WRITE))

    def test_spared_is_not_the_program_itself(self):
        program = main_of([("put", "a", 1)])
        self.assertEqual(spared(program), program)
        parts = program.parts()
        self.assertEqual(spared(main_of([("put", "t", 1), ("put", "a", 1)])), main_of([("rest",), ("put", "a", 1)]))
        self.assertEqual(program.parts(), parts)


class Pairs(unittest.TestCase):
    def check(self, parts, promises, free):
        program = Program(parts)
        told = bars(program, promises), goes_along(program, promises)
        self.assertEqual(told, pairs_by(free, program.writes()))
        for found, function in zip(told, (bars, goes_along)):
            self.assertIs(type(found), list)
            for pair in found:
                self.assertIs(type(pair), tuple)
                self.assertLess(*pair)
            copied = list(found)
            found.append("spoiled")
            self.assertEqual(function(program, promises), copied)
        return len(told[0]) - 1, len(told[1]) - 1

    def test_against_is_free(self):
        found = 0
        for parts, promises in some_programs(160, 14, 5, room=20):
            program = Program(parts)
            found += self.check(parts, promises, lambda lot: is_free(program, lot, promises))[0]
        self.assertGreater(found, 5)

    def test_copies_in_a_part_that_is_called_again_and_again(self):
        found = [0, 0]
        for seed in range(150):
            chance = random.Random(seed)
            x, y, z = chance.sample("abt", 3)
            calls = [("call", "turn", given) for given in ((x, y, z), (z, x, x)) * chance.choice((1, 2, 2, 2, 3))]
            for _ in range(chance.randint(0, 3)):
                more = chance.choice([("put", "b", 1), ("put", "t", 1), ("copy", "t", "a"), ("tell", "a"), ("loop", (("tell", "b"),))])
                calls.insert(chance.randint(0, len(calls)), more)
            parts = (TURN[0], ("main", ("a", "b"), ("t",), tuple(calls)))
            promises = some_promises(chance, ("a", "b"))
            more = self.check(parts, promises, lambda lot: slow_free(parts, lot, promises))
            found = [count + many for count, many in zip(found, more)]
        self.assertGreater(min(found), 5)

    def test_against_the_second_telling(self):
        for parts, promises in some_programs(60, 5, 6, room=8):
            self.check(parts, promises, lambda lot: slow_free(parts, lot, promises))

    def test_loops_calls_and_ways_out(self):
        for seed in range(40):
            chance = random.Random(seed)
            parts = program_parts(seed)
            program, promises = Program(parts), some_promises(chance, parts[-1][1])
            self.check(parts, promises, lambda lot: is_free(program, lot, promises))

    def test_turns(self):
        program = Program(TURN)
        self.assertEqual(goes_along(program), [((0, 0), (0, 1))])
        self.assertEqual(bars(program), [])
        self.check(TURN, (), lambda lot: slow_free(TURN, lot))
        # Once more inside of a part that is called itself, and with a write between them.
        parts = (
            TURN[0],
            ("both", ("a", "b"), ("t",), (*TURN[1][3][:2], ("put", "t", 5), *TURN[1][3][2:])),
            ("main", ("a", "b"), (), (("loop", (("call", "both", ("a", "b")),)),)),
        )
        self.assertEqual(goes_along(Program(parts)), [((0, 0), (0, 1))])
        self.check(parts, (), lambda lot: slow_free(parts, lot))

    def test_many_like_copies(self):
        for many in (2, 3, 20, 45):
            program = main_of([("copy", "a", "b")] * many + [("tell", "a")])
            self.assertEqual(bars(program), [((0, 0), (0, 1))] if many == 2 else [])
            self.assertEqual(goes_along(program), [])
        # Two like puts in each of many cells: each two of them bar each other.
        names = "abcd"
        body = [("put", name, 1) for name in names for _ in (0, 1)]
        program = main_of([*body, *[("tell", name) for name in names]], tuple(names))
        apart = [("never", *pair) for pair in itertools.combinations(names, 2)]
        for promises in (apart, ()):
            self.assertEqual(bars(program, promises), [((0, at), (0, at + 1)) for at in range(0, 8, 2)])
        self.assertEqual(bars(program, [("always", "a", name) for name in "bcd"]), [])

    def test_many_writes_in_turn(self):
        # Each second write undoes the one ahead of it, and all are told.
        own = ("t", "u", "v")
        body = []
        for number in range(14):
            body += [("put", "a", number), ("tell", "a"), ("copy", own[number % 3], "a"), ("copy", "a", own[number % 3])]
        program = main_of(body, ("a",), own)
        self.assertEqual(len(program.writes()), 42)
        wanted = pairs_by(lambda lot: is_free(program, lot), program.writes())
        self.assertEqual((bars(program), goes_along(program)), wanted)
        self.assertEqual(bars(program), [])

    def test_pairs_by_the_promises(self):
        program = main_of([("put", "a", 1), ("put", "b", 1), ("tell", "a")])
        self.assertEqual(bars(program), [])
        self.assertEqual(bars(program, [ALWAYS]), [((0, 0), (0, 1))])
        self.assertEqual(bars(program, [NEVER]), [])
        exchange = [("copy", "t", "a"), ("copy", "a", "b"), ("copy", "b", "t"), ("copy", "t", "a"), ("copy", "a", "b"), ("copy", "b", "t")]
        program = main_of(exchange)
        self.assertEqual(goes_along(program, [ALWAYS]), [])
        self.assertEqual(goes_along(program, promises=[NEVER]), pairs_by(lambda lot: is_free(program, lot, [NEVER]), program.writes())[1])

    def test_no_limit_of_writes(self):
        body = [*[("put", "t", number) for number in range(56)], ("put", "t", 7), ("put", "t", 7), ("tell", "t")]
        program = main_of(body)
        self.assertEqual(len(program.writes()), 58)
        self.assertEqual(bars(program), [((0, 56), (0, 57))])
        self.assertEqual(goes_along(program), [])
        # Somewhat beyond the limits it is so as well.
        for many in (90, 130):
            program = main_of([*[("put", "t", 2)] * many, ("put", "t", 7), ("put", "t", 7), ("tell", "t")])
            self.assertEqual(bars(program), [((0, many), (0, many + 1))])


class Documented(unittest.TestCase):
    def test_two_copies(self):
        program = main_of([("copy", "a", "b"), ("copy", "a", "b"), ("tell", "a")])
        free = [is_free(program, lot) for lot in ([(0, 0)], [(0, 1)], [(0, 0), (0, 1)])]
        self.assertEqual(free, [True, True, False])
        self.assertEqual(bars(program), [((0, 0), (0, 1))])
        self.assertEqual(places(greatest_lots(program)), [((0, 0),), ((0, 1),)])
        self.assertEqual(spared(program), program - [(0, 0)])

    def test_copies_around_a_put(self):
        program = main_of([("copy", "c", "a"), ("put", "a", 1), ("copy", "a", "c")], ("a",), ("c",))
        first, put, last = program.writes()
        for lot, free in (
            ([first, put, last], True), ([last], False), ([put], True), ([first], False), ([first, last], False),
            ([first, put], False), ([put, last], True),
        ):
            self.assertIs(is_free(program, lot), free)
        self.assertEqual(places(greatest_lots(program)), [(first, put, last)])
        self.assertEqual(bars(program), [])
        self.assertEqual(goes_along(program), [])

    def test_free_lots_are_closed_neither_upwards_nor_downwards(self):
        program = main_of([("copy", "a", "b"), ("copy", "a", "b"), ("tell", "a")])
        self.assertTrue(is_free(program, [(0, 0)]) and not is_free(program, [(0, 0), (0, 1)]))
        program = main_of([("copy", "t", "a"), ("put", "a", 1), ("copy", "a", "t")])
        self.assertTrue(is_free(program, program.writes()) and not is_free(program, [(0, 2)]))


class Passed(unittest.TestCase):
    def test_what_is_passed_stays(self):
        lot, promises = [[0, 1], [0, 0]], [["never", "a", "b"]]
        program = main_of([("copy", "a", "b"), ("copy", "a", "b"), ("tell", "a")])
        for _ in range(2):
            is_free(program, lot, promises)
            for function in (greatest_lots, bars, goes_along, spared):
                function(program, promises)
        self.assertEqual((lot, promises), ([[0, 1], [0, 0]], [["never", "a", "b"]]))
        self.assertEqual(program, main_of([("copy", "a", "b"), ("copy", "a", "b"), ("tell", "a")]))

    def test_arguments_by_name(self):
        program = main_of([("put", "a", 1), ("put", "b", 2), ("tell", "a")])
        self.assertIs(is_free(promises=[ALWAYS], lot=[(0, 0)], program=program), True)
        self.assertEqual(places(greatest_lots(promises=[ALWAYS], program=program)), [((0, 0),)])
        self.assertEqual(bars(promises=[ALWAYS], program=program), [])
        self.assertEqual(goes_along(promises=[ALWAYS], program=program), [])
        self.assertEqual(spared(promises=[ALWAYS], program=program), program - [(0, 0)])


if __name__ == "__main__":
    unittest.main()
