"""[19] to [23]: runs, talks and the places of the deeds of a run."""

import itertools
import random
import types
import unittest

from idlewrites.errors import BadAnswer, BadNumbers, UnlikeNames
from idlewrites.meetings import Meeting, meetings
from idlewrites.playing import Talk, deeds, play
from idlewrites.programs import Program
from tests.mates import judged_parts
from tests.samples import EVERY_DEED, GREAT, OBJECTS, SIX_DEEP, program_parts
from tests.second import WrongAnswer, slow_play


def main_of(body, handed=("a", "b"), own=("t",)):
    return Program([("main", handed, own, body)])


def run_of(body, answers=(), numbers=(3, 4), **names):
    """The talk of a part main whose handed names are a and b, which lead to two cells."""
    return play(main_of(body, **names), Meeting([["a"], ["b"]]), numbers, answers)


def fitting_answers(chance, program, meeting, numbers, most):
    """A row of answers that a run takes, as long as it takes any."""
    row = []
    while len(row) < most:
        kind = slow_play(program.parts(), meeting.blocks, numbers, row).kind
        if kind is None:
            break
        row.append(chance.random() < 0.55 if kind is bool else chance.choice((0, 1, -5, 77, GREAT)))
    return row


class Talks(unittest.TestCase):
    def check(self, talk, told, way, left, used):
        self.assertIsInstance(talk, Talk)
        self.assertEqual((talk.told, talk.way, talk.left, talk.used), (told, way, left, used))
        self.assertIs(type(talk.told), tuple)
        self.assertIs(type(talk.used), int)
        for thing in (talk.way, talk.left):
            self.assertIn(type(thing), (tuple, type(None)))
        for content in talk.told + (talk.left or ()):
            self.assertIs(type(content), int)

    def test_writes_and_tells(self):
        self.check(run_of([("put", "a", 1), ("put", "b", 2), ("tell", "a")]), (1,), ("end",), (1, 2), 0)
        self.check(run_of([("copy", "a", "b"), ("put", "b", -7), ("tell", "a"), ("tell", "b")]), (4, -7), ("end",), (4, -7), 0)
        self.check(run_of([("tell", "t"), ("copy", "a", "t"), ("rest",)]), (0,), ("end",), (0, 4), 0)
        self.check(run_of([("ask", "a"), ("skip",), ("ask", "b"), ("tell", "a")], [5, 6, GREAT]), (5,), ("end",), (5, GREAT), 3)
        self.check(run_of([]), (), ("end",), (3, 4), 0)

    def test_meetings_of_the_names(self):
        body = [("put", "a", 1), ("put", "b", 2), ("tell", "a")]
        one = Meeting([["b", "a"]])
        self.check(play(main_of(body), one, [9], []), (2,), ("end",), (2,), 0)
        # Numbers and what is left go by the blocks of the meeting, not by the handed names.
        program = main_of([("tell", "c"), ("tell", "a"), ("tell", "b")], handed=("c", "b", "a"))
        self.check(play(program, Meeting([["b"], ["c", "a"]]), (1, 2), ()), (1, 1, 2), ("end",), (1, 2), 0)
        self.check(play(main_of([("tell", "t")], handed=()), Meeting([]), [], []), (0,), ("end",), (), 0)

    def test_point_and_fresh(self):
        self.check(run_of([("point", "t", "a"), ("put", "t", 8), ("tell", "a")]), (8,), ("end",), (8, 4), 0)
        self.check(run_of([("point", "a", "b"), ("put", "a", 8), ("tell", "b")]), (8,), ("end",), (3, 8), 0)
        self.check(run_of([("fresh", "a"), ("tell", "a"), ("put", "a", 8)]), (0,), ("end",), (3, 4), 0)
        self.check(run_of([("point", "t", "a"), ("fresh", "a"), ("put", "t", 1), ("tell", "a")]), (0,), ("end",), (1, 4), 0)
        self.check(run_of([("point", "a", "a"), ("put", "a", 1), ("fresh", "t")]), (), ("end",), (1, 4), 0)
        self.check(run_of([("copy", "t", "a"), ("fresh", "t"), ("tell", "t")]), (0,), ("end",), (3, 4), 0)

    def test_calls(self):
        parts = [
            ("in", ("p", "q"), ("t",), [
                ("tell", "t"), ("put", "t", 5), ("put", "p", 6), ("tell", "q"), ("point", "q", "t"), ("put", "q", 7), ("fresh", "p"),
            ]),
            ("main", ("a", "b"), ("t",), [("call", "in", ("a", "b")), ("call", "in", ("b", "b")), ("tell", "t")]),
        ]
        talk = play(Program(parts), Meeting([["a"], ["b"]]), (3, 4), ())
        self.check(talk, (0, 4, 0, 6, 0), ("end",), (6, 6), 0)
        talk = play(Program(parts), Meeting([["a", "b"]]), (3,), ())
        self.check(talk, (0, 6, 0, 6, 0), ("end",), (6,), 0)

    def test_names_of_a_caller_stay(self):
        parts = [
            ("in", ("a",), (), [("fresh", "a"), ("put", "a", 9)]),
            ("mid", ("a", "b"), (), [("point", "a", "b"), ("call", "in", ("a",)), ("put", "a", 5)]),
            ("main", ("a", "b"), (), [("call", "mid", ("b", "a")), ("tell", "a"), ("tell", "b")]),
        ]
        self.check(play(Program(parts), Meeting([["a"], ["b"]]), (1, 2), ()), (5, 2), ("end",), (5, 2), 0)

    def test_ways_out(self):
        tell = [("put", "a", 1), ("tell", "a")]
        self.check(run_of([("leave",), *tell]), (), ("end",), (3, 4), 0)
        self.check(run_of([("fail", "oops"), *tell]), (), ("fault", "oops"), (3, 4), 0)
        self.check(run_of([("try", [("fail", "oops"), *tell], "oops", [("tell", "b")]), *tell]), (4, 1), ("end",), (1, 4), 0)
        self.check(run_of([("try", [("fail", "oops")], "ouch", [("tell", "b")]), *tell]), (), ("fault", "oops"), (3, 4), 0)
        self.check(run_of([("try", [], "oops", [("tell", "b")]), *tell]), (1,), ("end",), (1, 4), 0)
        self.check(run_of([("try", [("fail", "oops")], "oops", [("fail", "oops")])]), (), ("fault", "oops"), (3, 4), 0)
        self.check(run_of([("try", [("leave",)], "leave", [("tell", "b")]), *tell]), (), ("end",), (3, 4), 0)
        self.check(run_of([("last", [("fail", "oops")], tell), *tell]), (1,), ("fault", "oops"), (1, 4), 0)
        self.check(run_of([("last", [("leave",)], tell), ("fail", "x")]), (1,), ("end",), (1, 4), 0)
        self.check(run_of([("last", [("fail", "oops")], [("leave",)]), *tell]), (), ("end",), (3, 4), 0)
        self.check(run_of([("last", [("leave",)], [("fail", "x")]), *tell]), (), ("fault", "x"), (3, 4), 0)
        self.check(run_of([("last", [], [("fail", "x")]), *tell]), (), ("fault", "x"), (3, 4), 0)
        self.check(run_of([("last", tell, tell), *tell]), (1, 1, 1), ("end",), (1, 4), 0)

    def test_loops(self):
        body = [("loop", [("tell", "a"), ("ask", "a"), ("if", [("stop",)], []), ("tell", "b")]), ("tell", "a")]
        self.check(run_of(body, [False]), (3,), ("end",), (3, 4), 1)
        self.check(run_of(body, [True, 7, False, False]), (3, 4, 7), ("end",), (7, 4), 4)
        self.check(run_of(body, [True, 7, False, True, 8, True]), (3, 4, 7, 8), ("end",), (8, 4), 6)
        self.check(run_of(body, [True, 7, False]), (3, 4), None, None, 3)
        inner = [("loop", [("loop", [("stop",)]), ("tell", "a")])]
        self.check(run_of(inner, [True, True, True, False, False]), (3, 3), ("end",), (3, 4), 5)
        lasting = [("loop", [("last", [("stop",)], [("tell", "a")])])]
        self.check(run_of(lasting, [True]), (3,), ("end",), (3, 4), 1)
        again = [("loop", [("last", [("fail", "x")], [("if", [("stop",)], [])])])]
        self.check(run_of(again, [True, True]), (), ("end",), (3, 4), 2)
        self.check(run_of(again, [True, False]), (), ("fault", "x"), (3, 4), 2)

    def test_ways_out_of_parts(self):
        for way, told, end in (("leave", (1, 3), ("end",)), ("fail", (1,), ("fault", "x"))):
            out = ("leave",) if way == "leave" else ("fail", "x")
            parts = [
                ("in", (), ("t",), [("put", "t", 1), ("tell", "t"), out, ("tell", "t")]),
                ("main", ("a",), (), [("call", "in", ()), ("tell", "a")]),
            ]
            self.check(play(Program(parts), Meeting([["a"]]), [3], []), told, end, (3,), 0)
        parts = [
            ("in", ("p",), (), [("last", [("fail", "x")], [("put", "p", 1)])]),
            ("main", ("a",), (), [("try", [("call", "in", ("a",))], "x", [("tell", "a")]), ("put", "a", 2)]),
        ]
        self.check(play(Program(parts), Meeting([["a"]]), [3], []), (1,), ("end",), (2,), 0)

    def test_waiting(self):
        body = [("tell", "a"), ("ask", "a"), ("tell", "a"), ("if", [("skip",), ("fail", "x")], [("tell", "b")]), ("tell", "b")]
        self.check(run_of(body), (3,), None, None, 0)
        self.check(run_of(body, [9]), (3, 9), None, None, 1)
        self.check(run_of(body, [9, True]), (3, 9), None, None, 2)
        self.check(run_of(body, [9, True, 1]), (3, 9), ("fault", "x"), (9, 4), 3)
        self.check(run_of(body, [9, False]), (3, 9, 4, 4), ("end",), (9, 4), 2)
        # A run that waits does nothing more, not even what stands behind a last.
        self.check(run_of([("last", [("skip",)], [("tell", "a")])]), (), None, None, 0)
        self.check(run_of([("try", [("skip",)], "x", [("tell", "a")])]), (), None, None, 0)


class AgainstTheSecondTelling(unittest.TestCase):
    def check_run(self, program, meeting, numbers, row):
        slow = slow_play(program.parts(), meeting.blocks, numbers, row)
        talk = play(program, meeting, numbers, row)
        self.assertEqual((talk.told, talk.way, talk.left, talk.used), (tuple(slow.told), slow.way, slow.left, slow.used))
        self.assertEqual(list(deeds(program, meeting, numbers, row)), slow.places)
        return talk

    def check_program(self, program, chance, runs, most):
        every = meetings(program.handed())
        for _ in range(runs):
            meeting = chance.choice(every)
            numbers = [chance.choice((0, 1, -1, 5, GREAT)) + number for number in range(len(meeting))]
            row = fitting_answers(chance, program, meeting, numbers, most)
            talks = [self.check_run(program, meeting, numbers, row[:many]) for many in range(len(row) + 1)]
            self.check_cuts(talks, row)
            whole = talks[-1]
            if whole.way is not None:
                behind = row + chance.choices(OBJECTS, k=3)
                talk = self.check_run(program, meeting, numbers, behind)
                self.assertEqual(talk, whole)
                self.assertEqual(talk.used, whole.used)
            self.assertEqual(play(program, meeting, tuple(numbers), tuple(row)), whole)

    def check_cuts(self, talks, row):
        for many, talk in enumerate(talks[:-1]):
            self.assertIsNone(talk.way)
            self.assertIsNone(talk.left)
            self.assertEqual(talk.used, many)
            self.assertEqual(talks[many + 1].told[:len(talk.told)], talk.told)
        self.assertEqual(talks[-1].used, len(row))

    def test_many_programs(self):
        for seed in range(400):
            chance = random.Random(seed)
            self.check_program(Program(judged_parts(chance)), chance, 4, 12)
        for seed in range(150):
            self.check_program(Program(program_parts(seed)), random.Random(seed), 3, 10)
        for parts in (EVERY_DEED, SIX_DEEP):
            self.check_program(Program(parts), random.Random(6), 20, 30)

    def test_each_way_out_of_each_deed_nested(self):
        outs = [("rest",), ("leave",), ("stop",), ("fail", "x"), ("fail", "y")]
        tell = ("tell", "a")

        def wrapped(inner):
            yield [("if", inner, [tell])]
            yield [("if", [], inner), tell]
            yield [("loop", inner), tell]
            for out in outs:
                yield [("try", inner, "x", [tell, out]), tell]
                yield [("try", [out], "x", inner), tell]
                yield [("last", inner, [tell, out]), tell]
                yield [("last", [tell, out], inner), tell]

        for out in outs:
            for first in wrapped([("put", "a", 1), out, tell]):
                for body in wrapped(first):
                    parts = [("in", ("a",), (), [("loop", body), tell]), ("main", ("a",), (), [("call", "in", ("a",)), tell])]
                    program = Program(parts)
                    for row in itertools.product((True, False), repeat=4):
                        self.check_run(program, Meeting([["a"]]), [7], row)

    def test_wrong_answers_where_they_are_taken(self):
        chance = random.Random(21)
        found = 0
        for seed in range(600):
            program = Program(judged_parts(random.Random(seed)))
            meeting = chance.choice(meetings(program.handed()))
            numbers = list(range(len(meeting)))
            row = fitting_answers(chance, program, meeting, numbers, 8)
            if row:
                row[chance.randrange(len(row))] = chance.choice(OBJECTS)
            try:
                slow_play(program.parts(), meeting.blocks, numbers, row)
            except WrongAnswer as wrong:
                found += 1
                with self.assertRaises(BadAnswer) as context:
                    play(program, meeting, numbers, row)
                self.assertEqual(context.exception.index, wrong.index)
                with self.assertRaises(BadAnswer) as context:
                    list(deeds(program, meeting, numbers, row))
                self.assertEqual(context.exception.index, wrong.index)
            else:
                self.check_run(program, meeting, numbers, row)
        self.assertGreater(found, 100)


ONE = Meeting([["a"]])
TWO = Meeting([["a"], ["b"]])


class Errors(unittest.TestCase):
    """What play and deeds raise, and in which order."""

    def both(self, error, program, meeting, numbers, answers):
        with self.assertRaises(error) as context:
            play(program, meeting, numbers, answers)
        asked = deeds(program, meeting, numbers, answers)
        with self.assertRaises(error) as other:
            list(asked)
        self.assertEqual(vars(context.exception), vars(other.exception))
        return context.exception

    def test_unlike_names(self):
        program = main_of([("skip",)])
        for blocks in ([], [["a"]], [["b"]], [["a"], ["c"]], [["a", "b"], ["c"]], [["a", "b", "t"]], [["a", "t"]]):
            # It comes ahead of all that is wrong with numbers and answers.
            for numbers in ([1], [1, 2], None, ["x"], [True, False, True]):
                self.both(UnlikeNames, program, Meeting(blocks), numbers, ["wrong"])
        self.both(UnlikeNames, main_of([], handed=()), ONE, [1], [])
        for blocks in ([["b", "a"]], [["b"], ["a"]]):
            for handed in (("a", "b"), ("b", "a")):
                play(main_of([], handed=handed), Meeting(blocks), [3] * len(blocks), [])

    def test_bad_numbers(self):
        program = main_of([("skip",)])
        wrong = [
            (), [], [1], [1, 2, 3], [1, True], [False, 1], [1, None], ["1", 2], [1, "x"], [[1], 2], [1, (2,)], [{}, 1],
            None, True, 0, 1, 2, "", "ab", "12", {}, {0: 1, 1: 2}, {1: 1, 2: 2}, [1.0, 2], TWO, [1, TWO],
        ]
        for numbers in wrong:
            with self.subTest(numbers=numbers):
                self.both(BadNumbers, program, TWO, numbers, ["wrong"])
        for thing in OBJECTS:
            if type(thing) is not int:
                self.both(BadNumbers, program, TWO, [1, thing], [])
            if thing not in ((), []):
                self.both(BadNumbers, main_of([], handed=()), Meeting([]), thing, [])
        self.assertEqual(play(main_of([]), TWO, (GREAT, -GREAT), ()).left, (GREAT, -GREAT))

    def test_bad_answers(self):
        for word in ("ask", "skip"):
            body = [("ask", "a") if word == "ask" else ("skip",)]
            for thing in (True, False, None, "", "1", "True", [], [1], (), (1,), {}, {1: 1}, 1.0):
                self.assertEqual(self.both(BadAnswer, main_of(body), TWO, [1, 2], [thing]).index, 0)
                self.assertEqual(self.both(BadAnswer, main_of([("skip",), *body]), TWO, [1, 2], (4, thing)).index, 1)
        for body in ([("if", [], [])], [("loop", [])]):
            for thing in (0, 1, GREAT, None, "", "True", [], [True], (), (False,), {}):
                self.assertEqual(self.both(BadAnswer, main_of(body), TWO, [1, 2], [thing]).index, 0)
        body = [("loop", [("skip",)])]
        self.assertEqual(self.both(BadAnswer, main_of(body), TWO, [1, 2], [True, 1, True, 0, 1, "x"]).index, 4)
        self.assertIs(type(self.both(BadAnswer, main_of(body), TWO, [1, 2], [True, False]).index), int)

    def test_answers_that_are_not_taken(self):
        for thing in OBJECTS:
            self.assertEqual(run_of([("tell", "a")], [thing, thing]).used, 0)
            self.assertEqual(run_of([("skip",)], [5, thing]).used, 1)
            self.assertEqual(run_of([("leave",), ("skip",)], [thing]).used, 0)
            self.assertEqual(run_of([("if", [], [("skip",)])], [True, thing]).used, 1)

    def test_what_is_passed_stays(self):
        body = [("ask", "a"), ("put", "b", 9), ("loop", [("copy", "b", "a")])]
        numbers, answers = [3, 4], [5, True, False, "more"]
        talk = run_of(body, answers, numbers)
        self.assertEqual((numbers, answers), ([3, 4], [5, True, False, "more"]))
        numbers[0] = answers[0] = "spoiled"
        self.assertEqual((talk.told, talk.way, talk.left, talk.used), ((), ("end",), (5, 5), 3))


class Equality(unittest.TestCase):
    def test_talks_of_one_program(self):
        body = [("loop", [("tell", "a")])]
        self.assertEqual(run_of(body, [True, False]), run_of(body, [True, False, None]))
        self.assertIs(run_of(body, [True]) == run_of(body, [True, False]), False)
        self.assertIs(run_of(body, [True]) != run_of(body, [True, True]), True)
        self.assertIs(run_of(body, []) == run_of([("skip",)], []), True)

    def test_used_does_not_count(self):
        one, other = run_of([("skip",), ("tell", "a")], [5]), run_of([("tell", "a")])
        self.assertNotEqual(one.used, other.used)
        self.assertIs(one == other, True)
        self.assertIs(one != other, False)

    def test_each_of_told_way_and_left_counts(self):
        plain = run_of([("tell", "a")])
        for body in (
            [("tell", "b")], [], [("tell", "a"), ("tell", "a")], [("tell", "a"), ("fail", "x")], [("tell", "a"), ("skip",)],
            [("tell", "a"), ("put", "b", 5)],
        ):
            self.assertIs(plain == run_of(body), False)
            self.assertIs(plain != run_of(body), True)
        self.assertNotEqual(run_of([("fail", "x")]), run_of([("fail", "y")]))
        self.assertEqual(run_of([("tell", "a"), ("leave",)]), plain)
        self.assertEqual(run_of([("put", "b", 4), ("tell", "a")]), plain)

    def test_a_talk_equals_nothing_else(self):
        talk = run_of([("tell", "a")])
        for thing in (*OBJECTS, talk.told, talk.way, (talk.told, talk.way, talk.left), TWO, main_of([])):
            self.assertIs(talk == thing, False)
            self.assertIs(thing == talk, False)
            self.assertIs(talk != thing, True)


class Deeds(unittest.TestCase):
    def places(self, body, answers=()):
        return list(deeds(main_of(body), TWO, [3, 4], answers))

    def test_places_in_order(self):
        self.assertEqual(self.places([]), [])
        self.assertEqual(self.places([("put", "a", 1), ("tell", "a")]), [(0, 0), (0, 1)])
        self.assertEqual(self.places([("rest",), ("skip",), ("rest",)]), [(0, 0), (0, 1)])
        self.assertEqual(self.places([("if", [("rest",)], [("leave",)]), ("rest",)], [False]), [(0, 0), (0, 0, 1, 0)])
        body = [("loop", [("ask", "a")]), ("rest",)]
        self.assertEqual(self.places(body), [(0, 0)])
        self.assertEqual(self.places(body, [True, 1]), [(0, 0), (0, 0, 0, 0), (0, 0)])
        self.assertEqual(self.places(body, [True, 1, False]), [(0, 0), (0, 0, 0, 0), (0, 0), (0, 1)])
        body = [("try", [("last", [("fail", "x")], [])], "x", [("rest",)])]
        self.assertEqual(self.places(body), [(0, 0), (0, 0, 0, 0), (0, 0, 0, 0, 0, 0), (0, 0, 1, 0)])

    def test_places_of_parts(self):
        program = Program([("in", (), (), [("rest",)]), ("main", (), (), [("call", "in", ()), ("call", "in", ())])])
        self.assertEqual(list(deeds(program, Meeting([]), [], [])), [(1, 0), (0, 0), (1, 1), (0, 0)])

    def test_it_is_a_generator(self):
        asked = deeds(main_of([("rest",)]), TWO, [3, 4], [])
        self.assertIsInstance(asked, types.GeneratorType)
        self.assertEqual(next(asked), (0, 0))
        self.assertEqual(next(asked, None), None)

    def test_the_call_itself_raises_nothing(self):
        for meeting, numbers, error in ((ONE, [1], UnlikeNames), (TWO, None, BadNumbers), (TWO, [1], BadNumbers)):
            asked = deeds(main_of([("rest",)]), meeting, numbers, [])
            with self.assertRaises(error):
                next(asked)
        for answers in ([True], ["x"]):
            asked = deeds(main_of([("rest",), ("ask", "a"), ("rest",)]), TWO, [1, 2], answers)
            self.assertEqual([next(asked), next(asked)], [(0, 0), (0, 1)])
            with self.assertRaises(BadAnswer) as context:
                next(asked)
            self.assertEqual(context.exception.index, 0)

    def test_two_that_are_asked_by_turns(self):
        program = main_of([("loop", [("ask", "a"), ("if", [("put", "b", 1)], [("tell", "a")])]), ("tell", "b")])
        rows = ([True, 5, True, True, 6, False, False], [True, 7, False, True, 8, True])
        alone = [list(deeds(program, TWO, [1, 2], row)) for row in rows]
        first, second = (deeds(program, TWO, [1, 2], row) for row in rows)
        turns = [pair for pair in itertools.zip_longest(first, second)]
        self.assertEqual([one for one, _ in turns if one is not None], alone[0])
        self.assertEqual([other for _, other in turns if other is not None], alone[1])
        third, fourth = deeds(program, TWO, [1, 2], rows[0]), deeds(program, TWO, [1, 2], rows[0])
        self.assertTrue(all(one == other for one, other in zip(third, fourth)))

    def test_later_changes_have_no_effect(self):
        body = [("skip",), ("if", [("rest",)], [("leave",)]), ("rest",)]
        numbers, answers = [3, 4], [5, True]
        asked = deeds(main_of(body), TWO, numbers, answers)
        found = [next(asked)]
        answers[1] = False
        numbers.clear()
        answers.append("x")
        self.assertEqual(found + list(asked), [(0, 0), (0, 1), (0, 1, 0, 0), (0, 2)])

    def test_arguments_by_name(self):
        program = main_of([("skip",), ("tell", "a")])
        asked = deeds(answers=[1], numbers=[3, 4], meeting=TWO, program=program)
        self.assertEqual(list(asked), [(0, 0), (0, 1)])
        talk = play(answers=[1], numbers=[3, 4], meeting=TWO, program=program)
        self.assertEqual(talk, play(program, TWO, [3, 4], [1]))


if __name__ == "__main__":
    unittest.main()
