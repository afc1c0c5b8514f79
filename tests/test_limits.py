"""[5], [27]: programs at the limits and somewhat beyond, long rows, and many runs that are alike."""

import itertools
import random
import unittest

from idlewrites.judging import alike, good_meetings, parting
from idlewrites.lots import Lot
from idlewrites.meetings import Meeting, meetings
from idlewrites.playing import deeds, play
from idlewrites.programs import Program
from idlewrites.seeing import seen
from tests.mates import judged_parts, mate_of
from tests.samples import walked
from tests.second import slow_play, slow_row, slow_run

HANDED = ("a", "b", "c", "d")
OWN = ("t", "u", "v")
NAMES = HANDED + OWN
APART = Meeting([[name] for name in HANDED])


def main_of(body, handed=HANDED, own=OWN):
    return Program([("main", handed, own, body)])


def chosen(deeds_of_all):
    """A list that does one of some deeds, by the answers that it takes."""
    if len(deeds_of_all) == 1:
        return list(deeds_of_all)
    half = len(deeds_of_all) // 2
    return [("if", chosen(deeds_of_all[:half]), chosen(deeds_of_all[half:]))]


def tower(body, calls):
    """Six parts, of which each calls the one ahead of it with names in many orders."""
    orders = [HANDED, ("b", "a", "c", "d"), ("t", "b", "c", "d"), ("d", "c", "b", "a"), ("a", "a", "b", "c"), ("t", "u", "v", "a"),
              ("a", "t", "b", "d"), ("a", "b", "u", "d"), ("a", "b", "c", "v"), ("b", "c", "d", "a")]
    parts = [("pa", HANDED, OWN, body)]
    for name in ("pb", "pc", "pd", "pe", "main"):
        parts.append((name, HANDED, OWN, [("call", parts[-1][0], given) for given in orders[:calls]]))
    return Program(parts)


class Playing(unittest.TestCase):
    def test_rows_of_two_hundred_answers(self):
        chance = random.Random(200)
        longest = 0
        for seed in range(60):
            parts = judged_parts(random.Random(seed), most_parts=6, room=60, handed=4, deepest=6)
            loop = (*parts[-1][:3], (("loop", (("try", parts[-1][3], "oops", ()),)),))
            program = Program([*parts[:-1], loop])
            meeting = chance.choice(meetings(program.handed()))
            numbers = list(range(1, len(meeting) + 1))
            row = []
            while len(row) < 220:
                kind = slow_play(program.parts(), meeting.blocks, numbers, row).kind
                if kind is None:
                    break
                row.append(chance.random() < 0.9 if kind is bool else chance.randint(-9, 9))
            slow = slow_play(program.parts(), meeting.blocks, numbers, row)
            talk = play(program, meeting, numbers, row)
            self.assertEqual((talk.told, talk.way, talk.left, talk.used), (tuple(slow.told), slow.way, slow.left, slow.used))
            self.assertEqual(list(deeds(program, meeting, numbers, row)), slow.places)
            longest = max(longest, slow.used)
        self.assertEqual(longest, 220)

    def test_calls_of_calls(self):
        program = tower([("copy", "a", "b"), ("copy", "b", "t"), ("put", "t", 3)], 6)
        talk = play(program, APART, (1, 2, 3, 4), ())
        self.assertEqual((talk.told, talk.way, talk.used), ((), ("end",), 0))
        self.assertEqual(sum(1 for _ in deeds(program, APART, (1, 2, 3, 4), ())), 6 + 36 + 216 + 1296 + 7776 + 3 * 7776)

    def test_lists_in_lists(self):
        for depth in (6, 9):
            inner = [("tell", "a"), ("fail", "x")]
            for number in range(depth - 1):
                inner = [[("if", inner, [])], [("loop", inner)], [("try", inner, "y", [])], [("last", inner, [("tell", "b")])]][number % 4]
            program = main_of(inner)
            told = play(program, APART, (1, 2, 3, 4), [True] * depth)
            self.assertEqual((told.way, told.told[0], told.told[1:]), (("fault", "x"), 1, (2,) * (depth // 4 if depth > 4 else 0)))


class Alike(unittest.TestCase):
    """Programs whose runs are too many to be told one by one."""

    def test_six_parts_of_calls(self):
        body = [("copy", "a", "b"), ("copy", "t", "a"), ("copy", "b", "c"), ("copy", "c", "t"), ("put", "u", 3),
                ("copy", "u", "a"), ("rest",), ("copy", "d", "u"), ("put", "v", 1), ("copy", "v", "a")]
        program = tower(body, 10)
        self.assertEqual(len(program), 60)
        self.assertTrue(alike(program, program - [(0, 4), (0, 8), (0, 9)]))
        self.assertFalse(alike(program, program - [(0, 5)]))
        self.assertEqual(good_meetings(program, program - [(0, 4)]), meetings(HANDED))

    def test_all_ways_through_many_choices(self):
        chance = random.Random(5)
        body = []
        for number in range(19):
            first, second = chance.sample(NAMES, 2)
            body.append(("if", [("put", first, number)], [("copy", first, second)]))
        program = main_of([*body, ("put", "t", 5), ("put", "t", 6), ("tell", "t")])
        self.assertEqual(len(program), 60)
        self.assertTrue(alike(program, program - [(0, 19)]))
        self.assertTrue(alike(program, Program(program.parts())))
        run = parting(program, program - [(0, 20)])
        self.assertEqual((len(run.answers), run.meeting.code), (19, (0, 0, 0, 0)))
        self.assertEqual(set(run.answers), {False})

    def test_all_orders_of_copies_in_a_loop(self):
        chance = random.Random(6)
        copies = [("copy", *chance.sample(NAMES, 2)) for _ in range(26)]
        program = main_of([("loop", chosen(copies)), ("put", "v", 1), ("fresh", "v"), ("tell", "a"), ("tell", "v")])
        self.assertGreater(len(program), 54)
        self.assertTrue(alike(program, program - [(0, 1)]))
        self.assertFalse(alike(program, program - program.writes()))

    def test_many_faults_and_lasts(self):
        body = [("put", "a", 1)]
        for word in ("w", "x", "y", "z"):
            body = [("if", [("fail", word)], []), ("try", body, word, [("put", "t", 4)])]
            body = [("last", body, [("copy", "u", "t"), ("if", [("leave",)], [])]), ("copy", "v", "u")]
        program = main_of([("loop", [("last", body, [])]), ("tell", "a")])
        self.assertTrue(alike(program, program - [place for place in program.writes() if program[place][1] in ("u", "v")]))
        self.assertFalse(alike(program, program - [place for place in program.writes() if program[place][1] == "a"]))

    def test_names_that_are_moved_in_a_loop(self):
        moves = [("point", "t", "a"), ("point", "u", "t"), ("fresh", "t"), ("point", "a", "b"), ("copy", "u", "c"), ("ask", "t"), ("point", "b", "u")]
        program = main_of([("loop", chosen(moves)), ("copy", "v", "a"), ("tell", "b")], HANDED[:3])
        self.assertTrue(alike(program, program - [(0, 1)]))
        self.assertFalse(alike(program, program - [place for place in program.writes() if program[place][0] == "ask"]))

    def test_some_sixty_deeds(self):
        for seed in range(60):
            chance = random.Random(seed)
            parts = judged_parts(chance, most_parts=6, room=60, handed=4, deepest=6)
            program = Program(parts)
            other = Program(mate_of(parts, chance, 0.05))
            run = parting(program, other)
            self.assertEqual(alike(program, other), run is None)
            if run is not None:
                self.assertNotEqual(*run.talks)

    def test_beyond_the_limits(self):
        handed, own = tuple("abcdef"), tuple("tuvwx")
        parts = [("pa", handed, own, [("copy", "a", "b"), ("put", "t", 1), ("copy", "x", "t")] * 10)]
        for index in range(1, 9):
            given = [tuple(random.Random(index + many).sample(handed + own, 6)) for many in range(4)]
            parts.append(("p" + "abcdefghi"[index], handed, own, [("call", parts[-1][0], names) for names in given]))
        parts.append(("main", handed[:4], own, [("call", "pi", ("a", "b", "c", "d", "t", "u")), ("tell", "a")]))
        program = Program(parts)
        self.assertTrue(alike(program, program - [place for place in program.writes() if program[place][1] in ("t", "x")]))
        self.assertFalse(alike(program, program - program.writes()))


class LongRows(unittest.TestCase):
    def test_a_content_that_moves_a_cell_a_turn(self):
        moves = [("copy", "v", "u"), ("copy", "u", "t"), ("copy", "t", "d"), ("copy", "d", "c"), ("copy", "c", "b"), ("copy", "b", "a"), ("put", "a", 1)]
        program = main_of([("if", [("put", "a", 9)], []), ("loop", [("skip",), *moves]), *[("put", name, 0) for name in HANDED], ("tell", "v")])
        run = parting(program, program - [(0, 0, 0, 0)], [("never", *pair) for pair in itertools.combinations(HANDED, 2)])
        self.assertEqual(run.meeting, APART)
        self.assertEqual(run.answers, (True, *itertools.chain(*((True, number) for number in range(14, 20))), False))
        self.assertEqual([talk.told for talk in run.talks], [(9,), (10,)])

    def test_a_row_for_each_call(self):
        program = tower([("ask", "a"), ("ask", "b")], 2)
        parts = list(program.parts())
        parts[-1] = (*parts[-1][:3], (*parts[-1][3], ("put", "a", 1), ("tell", "a")))
        program = Program(parts)
        run = parting(program, program - [(5, 2)])
        self.assertEqual(run.answers, tuple(range(3, 67)))
        self.assertEqual(run.numbers, (2,))

    def test_rows_of_thousands_of_answers(self):
        parts = list(tower([("ask", "a"), ("skip",)] * 4, 4).parts())
        parts[-1] = (*parts[-1][:3], (*parts[-1][3], ("if", [("put", "a", 1)], []), ("tell", "a")))
        program = Program(parts)
        run = parting(program, program - [(5, 4, 0, 0)])
        self.assertEqual((run.numbers, run.answers), ((2,), (*range(3, 8195), True)))
        self.assertEqual([talk.used for talk in run.talks], [8193] * 2)
        sight = seen(program, (5, 4, 0, 0))
        self.assertEqual((sight.numbers, sight.answers), (run.numbers, run.answers))

    def test_a_lock_that_opens_by_one_row(self):
        # Only one row of answers gets as far as the put.
        for many in (8, 12, 20):
            steps = []
            for number in range(many):
                step = [("leave",)]
                steps.append(("if", [], step) if number % 2 else ("if", step, []))
            program = main_of([*steps, ("put", "a", 1)])
            run = parting(program, program - [(0, many)])
            self.assertEqual(run.answers, tuple(bool(number % 2) for number in range(many)))

    def test_against_the_second_telling(self):
        # The cells are handed on around a ring by one answer, and one of them is told by another one.
        for many in (3, 4, 5, 6):
            names = NAMES[:many]
            ring = [("copy", "z", names[-1])]
            ring += [("copy", name, ahead) for name, ahead in zip(names[:0:-1], names[-2::-1])] + [("copy", "a", "z")]
            body = [("put", "a", 1), ("loop", [("if", ring, [("put", "b", 2)])]), ("tell", names[-1]), *[("put", name, 3) for name in names]]
            parts = (("main", names[:4], (*names[4:], "z"), tuple(deed if deed[0] != "loop" else (
                "loop", (("if", tuple(deed[1][0][1]), tuple(deed[1][0][2])),)) for deed in body)),)
            other = (Program(parts) - [(0, 0)]).parts()
            run = parting(Program(parts), Program(other))
            apart = tuple((name,) for name in names[:4])
            row = slow_row(parts, other, run.meeting.blocks)
            self.assertEqual((run.numbers, run.answers), slow_run(parts, other, run.meeting.blocks, row))
            promises = [("never", *pair) for pair in itertools.combinations(names[:4], 2)]
            run = parting(Program(parts), Program(other), promises)
            row = slow_row(parts, other, apart)
            self.assertEqual((run.meeting.blocks, run.numbers, run.answers), (apart, *slow_run(parts, other, apart, row)))
            self.assertEqual(len(row), 2 * many - 1)

    def test_places_of_sixty_deeds(self):
        program = tower([("copy", "a", "b")] * 10, 10)
        self.assertEqual(len(walked(program.parts())), 60)
        self.assertEqual(len(Lot(program.writes())), 10)


if __name__ == "__main__":
    unittest.main()
