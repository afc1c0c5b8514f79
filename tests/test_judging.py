"""[26] to [28]: programs that are alike, good meetings and partings."""

import itertools
import random
import unittest

from idlewrites.judging import Parting, alike, good_meetings, parting
from idlewrites.lots import Lot
from idlewrites.meetings import Meeting, meetings
from idlewrites.playing import Talk, play
from idlewrites.programs import Program
from tests.mates import judged_parts, mate_of, some_pairs, some_promises
from tests.samples import EVERY_DEED, GREAT, program_parts
from tests.second import TooLong, all_blocks, keeps_all, slow_parting, slow_play, slow_row, slow_run


def main_of(body, handed=("a", "b"), own=("t",)):
    return Program([("main", handed, own, body)])


def told_by(run):
    """What a Parting tells, as plain values."""
    return run and (run.meeting.blocks, run.numbers, run.answers)


def slow_talk(parts, blocks, numbers, answers):
    run = slow_play(parts, blocks, numbers, answers)
    return tuple(run.told), run.way, run.left


def rows_up_to(parts, most):
    """All rows of answers that runs take, by length and then in their order; an integer stands as None."""
    blocks = all_blocks(parts[-1][1])[0]
    level = [()]
    for many in range(most + 1):
        following = []
        for row in level:
            yield row
            kind = slow_play(parts, blocks, (0,) * len(blocks), [0 if answer is None else answer for answer in row]).kind
            if kind is not None:
                following.extend(row + (answer,) for answer in ((False, True) if kind is bool else (None,)))
        level = following


class Judging(unittest.TestCase):
    def check_parting(self, run, one, other):
        """All that holds for a Parting of two programs, whatever it is."""
        self.assertIsInstance(run, Parting)
        self.assertIsInstance(run.meeting, Meeting)
        for thing in (run.numbers, run.answers, run.talks):
            self.assertIs(type(thing), tuple)
        self.assertEqual(len(run.talks), 2)
        for program, talk in zip((one, other), run.talks):
            played = play(program, run.meeting, run.numbers, run.answers)
            self.assertIsInstance(talk, Talk)
            self.assertEqual(talk, played)
            self.assertEqual(talk.used, len(run.answers))
            self.assertEqual(slow_talk(program.parts(), run.meeting.blocks, run.numbers, run.answers), (talk.told, talk.way, talk.left))
        self.assertNotEqual(*run.talks)
        puts = [program[place][2] for program in (one, other) for place in program.writes() if program[place][0] == "put"]
        greatest = max(map(abs, puts), default=0)
        integers = [thing for thing in (*run.numbers, *run.answers) if type(thing) is int]
        self.assertEqual(integers, list(range(greatest + 1, greatest + 1 + len(integers))))

    def check_pair(self, one, other, promises):
        first, second = Program(one), Program(other)
        try:
            wanted = slow_parting(one, other, promises, 3000)
            good = [blocks for blocks in all_blocks(one[-1][1]) if slow_row(one, other, blocks, 3000) is None]
        except TooLong:
            return None
        self.assertEqual([meeting.blocks for meeting in good_meetings(first, second)], good)
        run = parting(first, second, promises)
        self.assertIs(alike(first, second, promises), wanted is None)
        if wanted is None:
            self.assertIsNone(run)
            return 0
        blocks, row = wanted
        self.assertEqual(told_by(run), (blocks, *slow_run(one, other, blocks, row)))
        self.assertEqual([type(answer) for answer in run.answers], [int if answer is None else bool for answer in row])
        self.check_parting(run, first, second)
        # The other way round it is the same run, with the talks the other way round.
        back = parting(second, first, promises)
        self.assertEqual(told_by(back), told_by(run))
        self.assertEqual(back.talks, run.talks[::-1])
        return 1

    def test_against_the_second_telling(self):
        parted = 0
        for one, other, promises in some_pairs(700, 26):
            with self.subTest(one=one, other=other, promises=promises):
                parted += self.check_pair(one, other, promises) or 0
        self.assertGreater(parted, 100)

    def test_against_the_second_telling_with_more_deeds(self):
        sizes = {"room": 60, "most_parts": 6, "handed": 4, "deepest": 6}
        parted = 0
        for one, other, promises in some_pairs(200, 27, **sizes):
            with self.subTest(one=one, other=other, promises=promises):
                parted += self.check_pair(one, other, promises) or 0
        self.assertGreater(parted, 30)

    def test_against_all_rows_one_by_one(self):
        parted = 0
        for one, other, promises in some_pairs(250, 28, room=9):
            first, second = Program(one), Program(other)
            run = parting(first, second, promises)
            kept = [blocks for blocks in all_blocks(one[-1][1]) if keeps_all(blocks, promises)]
            found = None
            for row in rows_up_to(one, 4):
                for blocks in kept:
                    numbers, answers = slow_run(one, other, blocks, row)
                    if found is None and slow_talk(one, blocks, numbers, answers) != slow_talk(other, blocks, numbers, answers):
                        found = blocks, numbers, answers
            if found is not None:
                parted += 1
                self.assertEqual(told_by(run), found)
            elif run is not None:
                self.assertGreater(len(run.answers), 4)
        self.assertGreater(parted, 30)

    def test_alike_for_all_numbers(self):
        for one, other, promises in some_pairs(300, 29):
            first, second = Program(one), Program(other)
            chance = random.Random(len(str(one)))
            every = meetings(first.handed())
            good = good_meetings(first, second)
            for row in itertools.islice(rows_up_to(one, 5), 30):
                answers = [chance.choice((0, 1, -2, 7, 5)) if answer is None else answer for answer in row]
                for meeting in every:
                    numbers = [chance.choice((0, 1, -2, 7, 5)) for _ in range(len(meeting))]
                    talks = [play(program, meeting, numbers, answers) for program in (first, second)]
                    if meeting in good:
                        self.assertEqual(*talks)

    def test_a_program_with_itself(self):
        for seed in range(150):
            chance = random.Random(seed)
            for parts in (program_parts(seed), judged_parts(chance)):
                program, twin = Program(parts), Program(parts)
                promises = some_promises(chance, parts[-1][1])
                self.assertIs(alike(program, twin, promises), True)
                self.assertIs(alike(program, program), True)
                self.assertIsNone(parting(program, twin, promises))
                self.assertEqual(good_meetings(program, twin), meetings(program.handed()))

    def test_good_meetings_are_a_new_list_each_time(self):
        program = main_of([("put", "a", 1)])
        found = good_meetings(program, program)
        found.clear()
        self.assertEqual(len(good_meetings(one=program, other=program)), 2)


class Promised(unittest.TestCase):
    ONE = main_of([("put", "a", 1), ("put", "b", 2), ("put", "c", 3), ("tell", "a"), ("tell", "b")], ("a", "b", "c"))

    def test_promises_leave_meetings_out(self):
        other = self.ONE - [(0, 0)]
        good = good_meetings(self.ONE, other)
        self.assertEqual([meeting.blocks for meeting in good], [(("a", "b", "c"),), (("a", "b"), ("c",)), (("a", "c"), ("b",))])
        self.assertIs(alike(self.ONE, other), False)
        self.assertIs(alike(self.ONE, other, [("always", "a", "b")]), True)
        self.assertIs(alike(self.ONE, other, [("always", "a", "c")]), True)
        self.assertIs(alike(self.ONE, other, [("always", "b", "c")]), False)
        self.assertIs(alike(self.ONE, other, [("never", "a", "b")]), False)
        self.assertIs(alike(self.ONE, other, [("always", "a", "b"), ("never", "a", "c")]), True)
        self.assertIsNone(parting(self.ONE, other, [("always", "a", "b")]))
        run = parting(self.ONE, other, [("always", "b", "c")])
        self.assertEqual(told_by(run), ((("a",), ("b", "c")), (4, 5), ()))
        self.assertEqual([talk.told for talk in run.talks], [(1, 3), (4, 3)])

    def test_promises_that_no_meeting_keeps(self):
        other = self.ONE - [(0, 0), (0, 1)]
        for promises in (
            [("always", "a", "b"), ("never", "a", "b")],
            [("always", "a", "b"), ("always", "b", "c"), ("never", "a", "c")],
        ):
            self.assertIs(alike(self.ONE, other, promises), True)
            self.assertIsNone(parting(self.ONE, other, promises))
        self.assertIs(alike(self.ONE, other), False)

    def test_against_good_meetings(self):
        for one, other, promises in some_pairs(200, 30):
            first, second = Program(one), Program(other)
            good = [meeting.blocks for meeting in good_meetings(first, second)]
            kept = [blocks for blocks in all_blocks(one[-1][1]) if keeps_all(blocks, promises)]
            self.assertIs(alike(first, second, promises), all(blocks in good for blocks in kept))
            run = parting(first, second, promises)
            if run is not None:
                self.assertTrue(keeps_all(run.meeting.blocks, promises))


class Partings(unittest.TestCase):
    def parted(self, one, lot, promises=()):
        return parting(one, one - lot, promises)

    def test_numbers_go_on_from_the_greatest_that_is_written(self):
        body = [("skip",), ("if", [("ask", "t"), ("tell", "t")], []), ("put", "a", -9), ("tell", "a")]
        run = self.parted(main_of(body), [(0, 2)])
        self.assertEqual(told_by(run), ((("a", "b"),), (10,), (11, False)))
        run = parting(main_of([("skip",), ("ask", "a")]), main_of([("skip",), ("skip",)]))
        self.assertEqual(told_by(run), ((("a", "b"),), (1,), (2, 3)))
        run = parting(main_of([("put", "a", 5)]), main_of([("put", "a", -GREAT)]))
        self.assertEqual(told_by(run), ((("a", "b"),), (GREAT + 1,), ()))
        run = parting(main_of([("rest",), ("put", "a", 1)]), main_of([("put", "t", -30), ("rest",)]))
        self.assertEqual(run.numbers, (31,))

    def test_fewest_answers_first(self):
        # Two answers that are greater in each place beat three lesser ones.
        body = [
            ("if", [("if", [("put", "a", 1), ("leave",)], [("leave",)])], [("skip",), ("if", [], [("put", "a", 2)])]), ("rest",),
        ]
        run = self.parted(main_of(body), [(0, 0, 0, 0, 0, 0), (0, 0, 1, 1, 1, 0)])
        self.assertEqual(run.answers, (True, True))

    def test_least_answers_of_as_many(self):
        body = [("if", [("if", [], [("put", "a", 1)])], [("if", [("put", "a", 1)], [])])]
        program = main_of(body)
        self.assertEqual(self.parted(program, program.writes()).answers, (False, True))
        body = [("if", [("put", "a", 1)], [("put", "a", 1)])]
        program = main_of(body)
        self.assertEqual(self.parted(program, program.writes()).answers, (False,))
        self.assertEqual(self.parted(program, [(0, 0, 0, 0)]).answers, (True,))
        # Integers are all alike, so what stands behind them counts.
        body = [("if", [("skip",), ("if", [("put", "a", 1)], [])], [("if", [("skip",), ("put", "a", 1)], [])])]
        self.assertEqual(self.parted(main_of(body), main_of(body).writes()).answers, (False, True, 3))

    def test_least_meeting_last(self):
        body = [("if", [("copy", "a", "b")], [("put", "a", 1)])]
        run = self.parted(main_of(body), [(0, 0, 0, 0)])
        self.assertEqual(told_by(run), ((("a",), ("b",)), (2, 3), (True,)))
        run = self.parted(main_of(body), main_of(body).writes())
        self.assertEqual(told_by(run), ((("a", "b"),), (2,), (False,)))
        # The answers count ahead of the meeting.
        body = [("if", [("put", "a", 1)], [("copy", "a", "b")])]
        run = self.parted(main_of(body), main_of(body).writes())
        self.assertEqual(told_by(run), ((("a",), ("b",)), (2, 3), (False,)))
        program = main_of([("put", "c", 1), ("copy", "c", "a"), ("tell", "c")], ("c", "b", "a"))
        self.assertEqual(self.parted(program, [(0, 1)]).meeting.code, (0, 0, 1))
        self.assertEqual(self.parted(program, [(0, 1)], [("never", "a", "b")]).meeting.code, (0, 1, 1))
        self.assertEqual(self.parted(program, [(0, 0)]).meeting.code, (0, 0, 0))
        self.assertEqual(self.parted(program, [(0, 0)], [("never", "a", "b")]).meeting.code, (0, 1, 0))
        self.assertEqual(self.parted(program, [(0, 0)], [("never", "a", "c")]), None)

    def test_talks_that_wait_and_that_end(self):
        run = self.parted(main_of([("put", "a", 1), ("tell", "a"), ("skip",)]), [(0, 0)])
        self.assertEqual([(talk.told, talk.way, talk.left) for talk in run.talks], [((1,), None, None), ((2,), None, None)])
        run = self.parted(main_of([("put", "a", 1), ("skip",), ("fail", "x")]), [(0, 0)])
        self.assertEqual([(talk.way, talk.left) for talk in run.talks], [(("fault", "x"), (1,)), (("fault", "x"), (2,))])
        self.assertEqual(run.answers, (3,))

    def test_what_is_left_counts_by_the_cells_of_the_beginning(self):
        self.assertIsNone(self.parted(main_of([("fresh", "a"), ("put", "a", 1)]), [(0, 1)]))
        self.assertIsNotNone(self.parted(main_of([("point", "t", "a"), ("fresh", "a"), ("put", "t", 1)]), [(0, 2)]))
        self.assertIsNone(self.parted(main_of([("put", "t", 1)]), [(0, 0)]))
        # Nothing is left by a run that never ends: it only waits.
        body = [("put", "a", 1), ("loop", [("skip",)]), ("put", "a", 2)]
        self.assertIsNone(self.parted(main_of(body), [(0, 0)]))

    def test_zero_of_new_cells_and_equal_integers(self):
        self.assertIsNone(self.parted(main_of([("put", "t", 0), ("tell", "t")]), [(0, 0)]))
        self.assertIsNone(self.parted(main_of([("fresh", "b"), ("put", "b", 0), ("copy", "a", "b")]), [(0, 1)]))
        self.assertIsNotNone(self.parted(main_of([("put", "t", 1), ("put", "t", 0), ("tell", "t")]), [(0, 1)]))
        self.assertTrue(alike(main_of([("put", "a", 4), ("rest",)]), main_of([("rest",), ("put", "a", 4)])))
        self.assertFalse(alike(main_of([("put", "a", 4), ("rest",)]), main_of([("rest",), ("put", "a", 5)])))

    def test_answers_that_both_take(self):
        body = [("ask", "a"), ("copy", "b", "a"), ("ask", "a")]
        other = [("ask", "b"), ("rest",), ("ask", "a")]
        self.assertTrue(alike(main_of(body), main_of(other)))
        self.assertFalse(alike(main_of(body), main_of([("ask", "b"), ("rest",), ("skip",)])))
        self.assertFalse(alike(main_of([("ask", "a"), ("ask", "b")]), main_of([("ask", "b"), ("ask", "a")])))

    def test_writes_that_go_only_together(self):
        program = Program([
            ("turn", ("p", "q", "r"), (), [("copy", "p", "q"), ("copy", "q", "r")]),
            ("main", ("a", "b"), ("t",), [("call", "turn", given) for given in (("t", "a", "b"), ("b", "t", "t")) * 2]),
        ])
        self.assertFalse(alike(program, program - [(0, 0)]))
        self.assertFalse(alike(program, program - [(0, 1)]))
        self.assertTrue(alike(program, program - Lot([(0, 0), (0, 1)])))

    def test_the_copies_of_the_document(self):
        program = main_of([("copy", "a", "b"), ("copy", "a", "b"), ("tell", "a")])
        self.assertEqual([alike(program, program - lot) for lot in ([(0, 0)], [(0, 1)], [(0, 0), (0, 1)])], [True, True, False])
        program = main_of([("copy", "c", "a"), ("put", "a", 1), ("copy", "a", "c")], ("a",), ("c",))
        free = {
            lot: alike(program, program - list(lot))
            for many in range(4) for lot in itertools.combinations(program.writes(), many)
        }
        put, last = (0, 1), (0, 2)
        self.assertEqual([lot for lot, is_free in free.items() if is_free], [(), (put,), (put, last), ((0, 0), put, last)])

    def test_mates_that_are_no_struck_programs(self):
        for seed in range(100):
            chance = random.Random(seed)
            parts = judged_parts(chance)
            one, other = Program(mate_of(parts, chance, 0.5)), Program(mate_of(parts, chance, 0.5))
            run = parting(one, other)
            self.assertEqual(alike(one, other), run is None)
            if run is not None:
                self.check(run, one, other)

    check = Judging.check_parting

    def test_every_word(self):
        program = Program(EVERY_DEED)
        for place in program.writes():
            self.assertEqual(
                told_by(self.parted(program, [place])),
                self.slow_told(EVERY_DEED, (program - [place]).parts()),
            )

    def slow_told(self, one, other):
        found = slow_parting(one, other)
        return found and (found[0], *slow_run(one, other, *found))

    def test_arguments_by_name(self):
        one = main_of([("put", "a", 1)])
        other = one - one.writes()
        promises = [("never", "a", "b")]
        self.assertIs(alike(promises=promises, other=other, one=one), False)
        self.assertEqual(parting(promises=promises, other=other, one=one).meeting.code, (0, 1))
        self.assertEqual(good_meetings(other=other, one=one), [])


if __name__ == "__main__":
    unittest.main()
