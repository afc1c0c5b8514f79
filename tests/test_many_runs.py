"""[3], [9], [10], [21], [23]: many runs of one program, of equal ones, and of those in which writes are struck.

What is kept of one run must not show in another one, so each run is held against one of a new program.
"""

import random
import unittest

from idlewrites.judging import alike, parting
from idlewrites.lots import Lot
from idlewrites.meetings import Meeting, meetings
from idlewrites.playing import deeds, play
from idlewrites.programs import Program
from tests.mates import judged_parts
from tests.samples import EVERY_DEED, as_lists, spoiled
from tests.second import slow_play

# The program of the issue that asked for quick runs, and a row of answers that it takes whole.
BODY = [
    ("if", [("put", "a", 1), ("copy", "b", "a"), ("tell", "b")] * 3, [("last", [("ask", "a"), ("rest",)], [("skip",)])] * 3),
    ("try", [("tell", "a"), ("fail", "w")] * 3, "w", [("tell", "b"), ("put", "b", 7)] * 3),
    ("if", [("ask", "b"), ("loop", [("tell", "a"), ("stop",)])] * 3, []),
]
ROW = [True, True, 2, True, 3, False, 4, True]
ONE = Meeting([["a"]])


def plain(talk):
    return talk.told, talk.way, talk.left, talk.used


def slow_talk(parts, meeting, numbers, row):
    slow = slow_play(parts, meeting.blocks, numbers, row)
    return tuple(slow.told), slow.way, slow.left, slow.used


def some_run(chance, parts, most=12):
    """A meeting, numbers, and a row of answers that a run takes."""
    meeting = chance.choice(meetings(parts[-1][1]))
    numbers = [chance.randint(-9, 9) for _ in range(len(meeting))]
    row = []
    while len(row) < most:
        kind = slow_play(parts, meeting.blocks, numbers, row).kind
        if kind is None:
            break
        row.append(chance.random() < 0.6 if kind is bool else chance.randint(-9, 9))
    return meeting, numbers, row[:chance.randint(0, len(row))] if chance.random() < 0.3 else row


def by_turns(chance, generators):
    """What some generators yield, when one of them at a time is asked for one thing, by chance."""
    found = [[] for _ in generators]
    open_ones = list(range(len(generators)))
    while open_ones:
        number = chance.choice(open_ones)
        try:
            found[number].append(next(generators[number]))
        except StopIteration:
            open_ones.remove(number)
    return found


class ManyRuns(unittest.TestCase):
    def test_longer_rows_of_one_program(self):
        program = Program([("main", ["a"], ["b"], BODY)])
        for _ in range(3):
            for many in (*range(len(ROW) + 1), *range(len(ROW), -1, -1)):
                row = ROW[:many]
                self.assertEqual(plain(play(program, ONE, [1], row)), slow_talk(program.parts(), ONE, [1], row))
                slow = slow_play(program.parts(), ONE.blocks, [1], row)
                self.assertEqual(list(deeds(program, ONE, [1], row)), slow.places)
        self.assertEqual(play(program, ONE, [1], ROW).used, 8)

    def test_runs_of_one_program_by_turns(self):
        for seed in range(150):
            chance = random.Random(seed)
            parts = EVERY_DEED if seed == 0 else judged_parts(chance)
            program = Program(parts)
            runs = [some_run(chance, parts) for _ in range(4)]
            found = by_turns(chance, [deeds(program, *run) for run in runs])
            for run, places in zip(runs, found):
                self.assertEqual(places, slow_play(parts, run[0].blocks, *run[1:]).places)
                self.assertEqual(places, list(deeds(Program(parts), *run)))

    def test_plays_between_the_places_of_a_run(self):
        for seed in range(80):
            chance = random.Random(seed)
            parts = judged_parts(chance)
            program = Program(parts)
            run, other = some_run(chance, parts), some_run(chance, parts)
            places = []
            for place in deeds(program, *run):
                places.append(place)
                self.assertEqual(plain(play(program, *other)), slow_talk(parts, *other))
            self.assertEqual(places, slow_play(parts, run[0].blocks, *run[1:]).places)

    def test_a_program_and_what_is_struck_in_it(self):
        for seed in range(120):
            chance = random.Random(seed)
            parts = judged_parts(chance)
            program = Program(parts)
            run = some_run(chance, parts)
            play(program, *run)
            lots = [[place for place in program.writes() if chance.random() < 0.5] for _ in range(3)]
            struck = [program.struck(lot) for lot in lots] + [program - Lot(lot) for lot in lots]
            struck += [one - one.writes() for one in struck]
            for one in (program, *struck, program):
                self.assertEqual(plain(play(one, *run)), slow_talk(one.parts(), *run))
            found = by_turns(chance, [deeds(one, *run) for one in (program, *struck)])
            for places in found:
                # Programs of the same bones do the same deeds.
                self.assertEqual(places, found[0])
            self.assertEqual(found[0], slow_play(parts, run[0].blocks, *run[1:]).places)
            self.assertEqual(program, Program(parts))

    def test_equal_programs_that_are_two_objects(self):
        for seed in range(120):
            chance = random.Random(seed)
            parts = judged_parts(chance)
            twins = [Program(parts), Program(as_lists(parts)), Program(parts) - Lot([])]
            runs = [some_run(chance, parts) for _ in range(3)]
            for run in runs:
                chance.shuffle(twins)
                self.assertEqual([plain(play(twin, *run)) for twin in twins], [slow_talk(parts, *run)] * 3)
                found = by_turns(chance, [deeds(twin, *run) for twin in twins])
                self.assertEqual(found, [found[0]] * 3)
            self.assertTrue(all(one == other for one in twins for other in twins))

    def test_unlike_programs_with_the_same_places(self):
        for word, told in (("a", (1,)), ("b", (2,))):
            program = Program([("main", ["a", "b"], [], [("if", [("tell", word)], []), ("leave",)])])
            self.assertEqual(play(program, Meeting([["a"], ["b"]]), (1, 2), [True]).told, told)
            self.assertEqual(play(program, Meeting([["a"], ["b"]]), (1, 2), [False]).told, ())


class WhatWasReturned(unittest.TestCase):
    def test_changes_of_it_change_nothing_later(self):
        for seed in range(80):
            chance = random.Random(seed)
            parts = judged_parts(chance)
            passed = as_lists(parts)
            program = Program(passed)
            meeting, numbers, row = some_run(chance, parts)
            first = play(program, meeting, numbers, row)
            wanted = plain(first)
            places = list(deeds(program, meeting, numbers, row))
            copied = list(places)
            first.told, first.way, first.left, first.used = ("spoiled",), ("spoiled",), None, -1
            places.append("spoiled")
            program.writes().append("spoiled")
            spoiled(passed)
            self.assertEqual(plain(play(program, meeting, numbers, row)), wanted)
            self.assertEqual(list(deeds(program, meeting, numbers, row)), copied)
            self.assertEqual(program, Program(parts))

    def test_runs_that_ended_in_an_error_or_were_not_asked_to_the_end(self):
        program = Program([("main", ["a"], ["b"], BODY)])
        wanted = slow_talk(program.parts(), ONE, [1], ROW)
        for many in range(len(ROW)):
            with self.assertRaises(ValueError):
                play(program, ONE, [1], [*ROW[:many], "wrong"])
            half = deeds(program, ONE, [1], ROW)
            for _ in range(many):
                next(half)
            self.assertEqual(plain(play(program, ONE, [1], ROW)), wanted)

    def test_judging_between_runs(self):
        for seed in range(60):
            chance = random.Random(seed)
            parts = judged_parts(chance)
            program = Program(parts)
            other = program - [place for place in program.writes() if chance.random() < 0.3]
            run = some_run(chance, parts)
            before = plain(play(program, *run)), plain(play(other, *run))
            told = alike(program, other), alike(other, program)
            self.assertEqual((plain(play(program, *run)), plain(play(other, *run))), before)
            self.assertEqual(told, (parting(program, other) is None,) * 2)
            self.assertEqual(told, (alike(Program(parts), Program(other.parts())),) * 2)


if __name__ == "__main__":
    unittest.main()
