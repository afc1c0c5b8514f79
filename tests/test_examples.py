"""[46] to [48]: the examples of the document, as far as their functions have landed."""

import unittest

from idlewrites.judging import alike, good_meetings, parting
from idlewrites.lots import Lot
from idlewrites.meetings import Meeting, meetings
from idlewrites.playing import play
from idlewrites.programs import Program

P_TEXT = """\
part main (a b) ()
  put a 1
  put b 2
  tell a"""

Q_TEXT = """\
part main (a b) ()
  rest
  put b 2
  tell a"""

TURN_TEXT = """\
part turn (p q r) ()
  copy p q
  copy q r
part main (a b) (t)
  call turn (t a b)
  call turn (b t t)
  call turn (t a b)
  call turn (b t t)"""


class Examples(unittest.TestCase):
    def test_a_program_and_what_is_left_of_it(self):
        program = Program.read(P_TEXT)
        self.assertEqual(program.parts(), (
            ("main", ("a", "b"), (), (("put", "a", 1), ("put", "b", 2), ("tell", "a"))),
        ))
        self.assertEqual(program.writes(), [(0, 0), (0, 1)])
        struck = program - Lot([(0, 0)])
        self.assertEqual(struck.text(), Q_TEXT)
        self.assertEqual(struck, Program.read(Q_TEXT))
        self.assertEqual(struck.writes(), [(0, 1)])
        self.assertEqual(program.text(), P_TEXT)

    def test_the_parting_of_the_first_example(self):
        p = Program.read(P_TEXT)
        q = p - Lot([(0, 0)])
        run = parting(p, q)
        self.assertEqual(run.meeting.code, (0, 1))
        self.assertEqual(run.numbers, (3, 4))
        self.assertEqual(run.answers, ())
        self.assertEqual([talk.told for talk in run.talks], [(1,), (3,)])
        self.assertEqual([talk.way for talk in run.talks], [("end",), ("end",)])
        self.assertEqual([talk.left for talk in run.talks], [(1, 2), (3, 2)])
        self.assertEqual([meeting.code for meeting in good_meetings(p, q)], [(0, 0)])
        self.assertIs(alike(p, q), False)
        self.assertIs(alike(p, q, [("always", "a", "b")]), True)
        self.assertIs(alike(p, q, [("never", "a", "b")]), False)
        for program in (p, q):
            talk = play(program, Meeting([["a", "b"]]), [7], [])
            self.assertEqual((talk.told, talk.way, talk.left, talk.used), ((2,), ("end",), (2,), 0))

    def test_free_lots_of_the_first_example(self):
        p = Program.read(P_TEXT)
        lots = [[], [(0, 0)], [(0, 1)], [(0, 0), (0, 1)]]
        for promise, free in (("always", [True, True, False, False]), ("never", [True, False, False, False])):
            self.assertEqual([alike(p, p - lot, [(promise, "a", "b")]) for lot in lots], free)

    def test_the_equal_puts_alone_and_together(self):
        r = Program([("main", ["a"], [], [("put", "a", 1), ("put", "a", 1)])])
        self.assertIs(alike(r, r - [(0, 0)]), True)
        self.assertIs(alike(r, r - [(0, 1)]), True)
        self.assertIs(alike(r, r - [(0, 0), (0, 1)]), False)

    def test_turns_alone_and_together(self):
        program = Program.read(TURN_TEXT)
        self.assertEqual(good_meetings(program, program - program.writes()), meetings(["a", "b"]))
        for place in program.writes():
            self.assertIs(alike(program, program - [place]), False)
        for numbers in ((3, 4), (0, -1)):
            talk = play(program, Meeting([["a"], ["b"]]), numbers, ())
            self.assertEqual((talk.told, talk.way, talk.left), ((), ("end",), numbers))

    def test_two_equal_puts(self):
        program = Program([("main", ["a"], [], [("put", "a", 1), ("put", "a", 1)])])
        self.assertEqual(program.writes(), [(0, 0), (0, 1)])
        struck = program.struck([(0, 0)])
        self.assertEqual(struck.text(), "part main (a) ()\n  rest\n  put a 1")
        self.assertNotEqual(struck, program - [(0, 1)])
        self.assertEqual(struck - [(0, 1)], program - Lot([(0, 0), (0, 1)]))

    def test_turns(self):
        program = Program.read(TURN_TEXT)
        self.assertEqual(program.text(), TURN_TEXT)
        self.assertEqual(program.writes(), [(0, 0), (0, 1)])
        self.assertEqual(len(program), 6)
        self.assertEqual(program.handed(), ("a", "b"))
        self.assertEqual(program[1, 1], ("call", "turn", ("b", "t", "t")))
        struck = program - Lot(program.writes())
        self.assertEqual(struck.text(), TURN_TEXT.replace("copy p q", "rest").replace("copy q r", "rest"))


if __name__ == "__main__":
    unittest.main()
