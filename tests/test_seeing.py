"""[36], [37]: the runs in which the numbers of writes come out, and the writes whose numbers never do."""

import itertools
import random
import unittest

from idlewrites.choosing import is_free
from idlewrites.errors import BadPromise, NoWrite
from idlewrites.judging import alike
from idlewrites.lots import Lot
from idlewrites.meetings import Meeting, meetings
from idlewrites.playing import Talk, play
from idlewrites.programs import Program
from idlewrites.seeing import Sight, seen, unseen
from tests.mates import judged_parts, respelled, some_promises
from tests.samples import EVERY_DEED, GREAT, OBJECTS, as_lists, program_parts
from tests.second import TooLong, all_blocks, keeps_all, slow_play, slow_run
from tests.tellings import passed_told, slow_seen

ALWAYS = ("always", "a", "b")
NEVER = ("never", "a", "b")


def main_of(body, handed=("a", "b"), own=("t",)):
    return Program([("main", handed, own, body)])


def told_by(sight):
    """What a Sight tells, as plain values."""
    return sight and (sight.meeting.blocks, sight.numbers, sight.answers)


class Seen(unittest.TestCase):
    def check_sight(self, sight, program, place):
        """All that holds for a Sight, whatever it is."""
        self.assertIsInstance(sight, Sight)
        self.assertIsInstance(sight.meeting, Meeting)
        self.assertIs(type(sight.numbers), tuple)
        self.assertIs(type(sight.answers), tuple)
        self.assertIsInstance(sight.talk, Talk)
        self.assertEqual(sight.talk, play(program, sight.meeting, sight.numbers, sight.answers))
        self.assertEqual(sight.talk.used, len(sight.answers))
        self.assertTrue(passed_told(program.parts(), sight.meeting.blocks, sight.numbers, sight.answers, place))
        greatest = max((abs(deed[2]) for deed in map(program.__getitem__, program.writes()) if deed[0] == "put"), default=0)
        integers = [thing for thing in (*sight.numbers, *sight.answers) if type(thing) is int]
        self.assertEqual(integers, list(range(greatest + 1, greatest + 1 + len(integers))))

    def check_program(self, parts, promises, most=3000):
        program = Program(parts)
        never = unseen(program, promises)
        self.assertIs(type(never), list)
        found = 0
        for place in program.writes():
            sight = seen(program, place, promises)
            self.assertEqual(sight is None, place in never)
            if sight is not None:
                found += 1
                self.check_sight(sight, program, place)
                self.assertTrue(keeps_all(sight.meeting.blocks, promises))
            try:
                self.assertEqual(told_by(sight), slow_seen(parts, place, promises, most))
            except TooLong:
                continue
        self.assertEqual(never, sorted(never))
        self.assertLessEqual(set(never), set(program.writes()))
        self.assertIs(alike(program, program - Lot(never), promises), True)
        self.assertIs(is_free(program, never, promises), True)
        return found

    def test_against_the_second_telling(self):
        found = 0
        for seed in range(500):
            chance = random.Random(seed)
            parts = judged_parts(chance)
            found += self.check_program(respelled(parts) if seed % 3 == 0 else parts, [])
        self.assertGreater(found, 300)

    def test_under_promises(self):
        found = 0
        for seed in range(250):
            chance = random.Random(seed + 36)
            parts = judged_parts(chance, handed=4)
            found += self.check_program(parts, some_promises(chance, parts[-1][1]))
        self.assertGreater(found, 100)

    def test_with_more_deeds(self):
        for seed in range(60):
            chance = random.Random(seed + 37)
            parts = judged_parts(chance, most_parts=6, room=60, handed=4, deepest=6)
            self.check_program(parts, some_promises(chance, parts[-1][1]))
        for seed in range(40):
            self.check_program(program_parts(seed), [])
        self.check_program(EVERY_DEED, [])

    def test_no_shorter_row_does(self):
        # Each meeting and each row is played, with two marks in the place of the number.
        checked = 0
        for seed in range(120):
            parts = judged_parts(random.Random(seed + 38), room=9)
            program = Program(parts)
            for place in program.writes()[:3]:
                wanted = None
                for blocks, row in self.all_runs(parts, 3):
                    run = slow_run(parts, (), blocks, row)
                    if wanted is None and passed_told(parts, blocks, *run, place):
                        wanted = (blocks, *run)
                sight = seen(program, place)
                if wanted is not None:
                    checked += 1
                    self.assertEqual(told_by(sight), wanted)
                elif sight is not None:
                    self.assertGreater(len(sight.answers), 3)
        self.assertGreater(checked, 50)

    def all_runs(self, parts, most):
        """The pairs (blocks, row) of all runs, in the document's order; an integer stands as None."""
        every = all_blocks(parts[-1][1])
        level = [()]
        for _ in range(most + 1):
            following = []
            for row in level:
                kind = slow_play(parts, every[0], (0,) * len(every[0]), [0 if answer is None else answer for answer in row]).kind
                yield from ((blocks, row) for blocks in every)
                if kind is not None:
                    following.extend(row + (answer,) for answer in ((False, True) if kind is bool else (None,)))
            level = following


class First(unittest.TestCase):
    def test_puts_copies_and_asks(self):
        program = main_of([("put", "a", 5), ("ask", "t"), ("copy", "b", "t"), ("tell", "b")])
        self.assertEqual(told_by(seen(program, (0, 0))), ((("a",), ("b",)), (6, 7), (8,)))
        self.assertEqual(seen(program, (0, 0)).talk.left, (5, 8))
        for place in ((0, 1), (0, 2)):
            sight = seen(program, place)
            self.assertEqual(told_by(sight), ((("a", "b"),), (6,), (7,)))
            self.assertEqual((sight.talk.told, sight.talk.way, sight.talk.left), ((7,), ("end",), (7,)))

    def test_numbers_go_on_from_the_greatest_that_is_written(self):
        program = main_of([("skip",), ("put", "t", -GREAT), ("ask", "a"), ("tell", "a")])
        self.assertEqual(told_by(seen(program, (0, 2))), ((("a", "b"),), (GREAT + 1,), (GREAT + 2, GREAT + 3)))
        program = main_of([("ask", "a")])
        self.assertEqual(told_by(seen(program, (0, 0))), ((("a", "b"),), (1,), (2,)))
        # What is struck is written no more: b is that of the program alone.
        program = main_of([("put", "t", 9), ("ask", "a")])
        self.assertEqual(seen(program - [(0, 0)], (0, 1)).numbers, (1,))

    def test_what_is_copied_on(self):
        program = main_of([("put", "t", 1), ("copy", "u", "t"), ("put", "t", 2), ("copy", "t", "u"), ("copy", "a", "t")], own=("t", "u"))
        self.assertEqual(unseen(program), [(0, 2)])
        # A copy of a cell to itself passes the write, and keeps what had been passed.
        program = main_of([("put", "a", 1), ("copy", "a", "a")])
        self.assertEqual(unseen(program), [])
        # Of a name at the beginning a copy alone is passed.
        program = main_of([("copy", "a", "b"), ("put", "b", 1)])
        self.assertEqual([told_by(seen(program, place)) for place in program.writes()], [((("a",), ("b",)), (2, 3), ()), ((("a", "b"),), (2,), ())])

    def test_told_and_left_and_neither(self):
        program = main_of([("put", "a", 1), ("put", "t", 2), ("tell", "t"), ("loop", [("skip",)]), ("put", "a", 3)])
        self.assertEqual(unseen(program), [(0, 0)])
        self.assertEqual(told_by(seen(program, (0, 1))), ((("a", "b"),), (4,), ()))
        self.assertEqual(seen(program, (0, 1)).talk.way, None)
        self.assertEqual(told_by(seen(program, (0, 4))), ((("a", "b"),), (4,), (False,)))
        # Left counts after a fault as well, and only for the cells that stood there at the beginning.
        program = main_of([("put", "b", 1), ("point", "t", "a"), ("fresh", "a"), ("put", "a", 2), ("put", "t", 3), ("fail", "oops")])
        self.assertEqual(unseen(program), [(0, 3)])
        self.assertEqual(seen(program, (0, 4)).talk.way, ("fault", "oops"))
        self.assertEqual(seen(program, (0, 0)).meeting.code, (0, 1))
        self.assertEqual(unseen(main_of([("leave",), ("put", "a", 1)])), [(0, 1)])

    def test_new_cells_have_passed_nothing(self):
        program = main_of([("put", "t", 1), ("fresh", "t"), ("copy", "a", "t")])
        self.assertEqual(unseen(program), [(0, 0)])
        parts = [("in", (), ("t",), [("put", "t", 1)]), ("main", ("a",), ("t",), [("call", "in", ()), ("copy", "a", "t")])]
        self.assertEqual(unseen(Program(parts)), [(0, 0)])
        # A put of 0 writes a number as each other put does.
        self.assertEqual(unseen(main_of([("put", "a", 0)])), [])

    def test_least_meetings_and_answers(self):
        program = main_of([("if", [("put", "a", 1)], [("skip",), ("put", "a", 2)])])
        self.assertEqual(told_by(seen(program, (0, 0, 0, 0))), ((("a", "b"),), (3,), (True,)))
        self.assertEqual(told_by(seen(program, (0, 0, 1, 1))), ((("a", "b"),), (3,), (False, 4)))
        program = main_of([("put", "a", 1), ("put", "b", 2), ("tell", "a")])
        self.assertEqual(told_by(seen(program, (0, 0))), ((("a",), ("b",)), (3, 4), ()))
        self.assertEqual(told_by(seen(program, (0, 0), [NEVER])), ((("a",), ("b",)), (3, 4), ()))
        self.assertIsNone(seen(program, (0, 0), [ALWAYS]))
        self.assertIsNone(seen(program, (0, 1), [ALWAYS, NEVER]))
        self.assertEqual(unseen(program, [ALWAYS]), [(0, 0)])
        self.assertEqual(unseen(program, [ALWAYS, NEVER]), [(0, 0), (0, 1)])
        self.assertEqual(unseen(program), [])

    def test_a_write_that_is_seen_and_free(self):
        program = main_of([("copy", "a", "b"), ("tell", "a")])
        sight = seen(program, (0, 0), [ALWAYS])
        self.assertEqual(told_by(sight), ((("a", "b"),), (1,), ()))
        self.assertEqual(unseen(program, [ALWAYS]), [])
        self.assertIs(is_free(program, [(0, 0)], [ALWAYS]), True)
        self.assertIs(is_free(program, [(0, 0)]), False)

    def test_unseen_ones_with_another_free_lot(self):
        # The put into t is unseen as long as the one into a stands behind it.
        program = main_of([("put", "a", 1), ("put", "a", 1)])
        self.assertEqual(unseen(program), [(0, 0)])
        self.assertIs(is_free(program, [(0, 1)]), True)
        self.assertIs(is_free(program, [(0, 0), (0, 1)]), False)


class LongRows(unittest.TestCase):
    def test_a_number_that_moves_a_cell_a_turn(self):
        names = ("a", "b", "c", "d", "t", "u", "v")
        moves = [("copy", name, ahead) for name, ahead in zip(names[:0:-1], names[-2::-1])]
        body = [("put", "a", 9), ("loop", [("skip",), *moves, ("put", "a", 1)]), ("tell", "v"), *[("put", name, 0) for name in names]]
        program = main_of(body, names[:4], names[4:])
        apart = [("never", *pair) for pair in itertools.combinations(names[:4], 2)]
        sight = seen(program, (0, 0), apart)
        self.assertEqual(sight.answers, (*itertools.chain(*((True, number) for number in range(14, 20))), False))
        self.assertEqual((sight.talk.told, sight.numbers), ((9,), (10, 11, 12, 13)))
        sight = seen(program, (0, 0))
        self.assertEqual(told_by(sight), slow_seen(program.parts(), (0, 0)))
        self.assertEqual(seen(program, (0, 1, 0, 1), apart).answers, (True, 14, False))

    def test_a_lock_that_opens_by_one_row(self):
        steps = [("if", [], [("leave",)]) if number % 2 else ("if", [("leave",)], []) for number in range(18)]
        program = main_of([*steps, ("put", "a", 1)])
        self.assertEqual(seen(program, (0, 18)).answers, tuple(bool(number % 2) for number in range(18)))
        self.assertEqual(unseen(program), [])

    def test_a_row_for_each_call(self):
        parts = [("pa", ("a",), (), (("ask", "a"), ("skip",)))]
        for name in ("pb", "pc", "pd", "main"):
            parts.append((name, ("a",), (), (("call", parts[-1][0], ("a",)),) * 2))
        program = Program(parts)
        sight = seen(program, (0, 0))
        self.assertEqual((sight.numbers, sight.answers), ((1,), tuple(range(2, 34))))
        self.assertEqual(sight.talk.left, (32,))


class Errors(unittest.TestCase):
    PROGRAM = main_of([("put", "a", 1), ("tell", "a"), ("if", [("ask", "b"), ("skip",)], []), ("rest",)])

    def test_no_writes(self):
        wrong = [
            (0,), (), (0, 1), (0, 2), (0, 3), (0, 4), (1, 0), (0, 2, 0, 1), (0, 2, 1, 0), (0, 2, 0), [0, 1], (0, False), [False, 0],
            (-1, 0), ((0, 0),), [(0, 0)], "put", Lot([(0, 0)]), self.PROGRAM, *OBJECTS,
        ]
        for thing in wrong:
            for promises in ((), ["wrong"], None):
                with self.subTest(thing=thing), self.assertRaises(NoWrite) as context:
                    seen(self.PROGRAM, thing, promises)
                self.assertIs(context.exception.place, thing)
        for place in ((0, 0), [0, 0], (0, 2, 0, 0), [0, 2, 0, 0]):
            with self.assertRaises(BadPromise):
                seen(self.PROGRAM, place, ["wrong"])
            self.assertEqual(told_by(seen(self.PROGRAM, place)), told_by(seen(self.PROGRAM, tuple(place))))
        with self.assertRaises(BadPromise):
            unseen(self.PROGRAM, ["wrong"])

    def test_what_is_passed_and_returned(self):
        place, promises = [0, 0], [["never", "a", "b"]]
        sight = seen(self.PROGRAM, place, promises)
        wanted = told_by(sight)
        found = unseen(self.PROGRAM, promises)
        copied = list(found)
        found.append("spoiled")
        sight.numbers, sight.talk.told = None, None
        self.assertEqual((place, promises), ([0, 0], [["never", "a", "b"]]))
        self.assertEqual(told_by(seen(self.PROGRAM, place, promises)), wanted)
        self.assertEqual(unseen(self.PROGRAM, promises), copied)
        self.assertEqual(told_by(seen(promises=as_lists(promises), place=(0, 0), program=self.PROGRAM)), wanted)
        self.assertEqual(unseen(promises=promises, program=self.PROGRAM), copied)

    def test_all_meetings_of_four_names(self):
        names = ("a", "b", "c", "d")
        body = [("put", name, number) for number, name in enumerate(names)] + [("tell", name) for name in names]
        program = main_of(body, names)
        for meeting in meetings(names):
            promises = [
                ("always" if meeting.one(*pair) else "never", *pair) for pair in itertools.combinations(names, 2)
            ]
            last = {block[-1] for block in meeting.blocks}
            self.assertEqual(unseen(program, promises), [(0, at) for at, name in enumerate(names) if name not in last])
            for at, name in enumerate(names):
                sight = seen(program, (0, at), promises)
                self.assertEqual(sight and sight.meeting, meeting if name in last else None)


if __name__ == "__main__":
    unittest.main()
