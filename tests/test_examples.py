"""[46] to [48]: the examples of the document, and those that stand in [30], [34] and [37]."""

import unittest

from idlewrites.choosing import bars, goes_along, greatest_lots, is_free, spared
from idlewrites.errors import Parted
from idlewrites.judging import alike, good_meetings, parting
from idlewrites.lots import Lot
from idlewrites.meetings import Meeting, meetings
from idlewrites.papers import is_paper, paper
from idlewrites.playing import play
from idlewrites.programs import Program
from idlewrites.promising import breaks, least_promises
from idlewrites.seeing import seen, unseen

P_TEXT = """\
part main (a b) ()
  put a 1
  put b 2
  tell a"""

Q_TEXT = """\
part main (a b) ()
  rest
  put b 2
  tell a"""

TURN_TEXT = """\
part turn (p q r) ()
  copy p q
  copy q r
part main (a b) (t)
  call turn (t a b)
  call turn (b t t)
  call turn (t a b)
  call turn (b t t)"""


class Examples(unittest.TestCase):
    def test_a_program_and_what_is_left_of_it(self):
        program = Program.read(P_TEXT)
        self.assertEqual(program.parts(), (
            ("main", ("a", "b"), (), (("put", "a", 1), ("put", "b", 2), ("tell", "a"))),
        ))
        self.assertEqual(program.writes(), [(0, 0), (0, 1)])
        struck = program - Lot([(0, 0)])
        self.assertEqual(struck.text(), Q_TEXT)
        self.assertEqual(struck, Program.read(Q_TEXT))
        self.assertEqual(struck.writes(), [(0, 1)])
        self.assertEqual(program.text(), P_TEXT)

    def test_the_parting_of_the_first_example(self):
        p = Program.read(P_TEXT)
        q = p - Lot([(0, 0)])
        run = parting(p, q)
        self.assertEqual(run.meeting.code, (0, 1))
        self.assertEqual(run.numbers, (3, 4))
        self.assertEqual(run.answers, ())
        self.assertEqual([talk.told for talk in run.talks], [(1,), (3,)])
        self.assertEqual([talk.way for talk in run.talks], [("end",), ("end",)])
        self.assertEqual([talk.left for talk in run.talks], [(1, 2), (3, 2)])
        self.assertEqual([meeting.code for meeting in good_meetings(p, q)], [(0, 0)])
        self.assertIs(alike(p, q), False)
        self.assertIs(alike(p, q, [("always", "a", "b")]), True)
        self.assertIs(alike(p, q, [("never", "a", "b")]), False)
        for program in (p, q):
            talk = play(program, Meeting([["a", "b"]]), [7], [])
            self.assertEqual((talk.told, talk.way, talk.left, talk.used), ((2,), ("end",), (2,), 0))

    def test_free_lots_of_the_first_example(self):
        p = Program.read(P_TEXT)
        lots = [[], [(0, 0)], [(0, 1)], [(0, 0), (0, 1)]]
        for promise, free in (("always", [True, True, False, False]), ("never", [True, False, False, False])):
            self.assertEqual([alike(p, p - lot, [(promise, "a", "b")]) for lot in lots], free)

    def test_the_equal_puts_alone_and_together(self):
        r = Program([("main", ["a"], [], [("put", "a", 1), ("put", "a", 1)])])
        self.assertIs(alike(r, r - [(0, 0)]), True)
        self.assertIs(alike(r, r - [(0, 1)]), True)
        self.assertIs(alike(r, r - [(0, 0), (0, 1)]), False)

    def test_turns_alone_and_together(self):
        program = Program.read(TURN_TEXT)
        self.assertEqual(good_meetings(program, program - program.writes()), meetings(["a", "b"]))
        for place in program.writes():
            self.assertIs(alike(program, program - [place]), False)
        for numbers in ((3, 4), (0, -1)):
            talk = play(program, Meeting([["a"], ["b"]]), numbers, ())
            self.assertEqual((talk.told, talk.way, talk.left), ((), ("end",), numbers))

    def test_promises_of_the_first_example(self):
        p = Program.read(P_TEXT)
        q = p - Lot([(0, 0)])
        always, never = ("always", "a", "b"), ("never", "a", "b")
        self.assertEqual(least_promises(p, q), [(always,)])
        (run,) = breaks(p, q, [always])
        self.assertEqual((run.meeting.code, run.numbers, run.answers), ((0, 1), (3, 4), ()))
        self.assertEqual(greatest_lots(p, [always]), [Lot([(0, 0)])])
        self.assertEqual(greatest_lots(p, [never]), [Lot([])])
        self.assertEqual(greatest_lots(p), [Lot([])])
        self.assertEqual(spared(p, [always]), q)
        self.assertEqual(spared(p, [never]), p)
        self.assertIs(is_free(p, Lot([(0, 0)]), [always]), True)
        self.assertIs(is_free(p, Lot([(0, 0)])), False)
        self.assertIs(is_free(p, Lot([]), [never]), True)

    def test_what_comes_out_of_the_first_example(self):
        p = Program.read(P_TEXT)
        always = ("always", "a", "b")
        sight = seen(p, (0, 0))
        self.assertEqual((sight.meeting.code, sight.numbers, sight.answers, sight.talk.told), ((0, 1), (3, 4), (), (1,)))
        self.assertIsNone(seen(p, (0, 0), [always]))
        sight = seen(p, (0, 1))
        self.assertEqual((sight.meeting.code, sight.numbers, sight.talk.told, sight.talk.left), ((0, 0), (3,), (2,), (2,)))
        self.assertEqual(unseen(p), [])
        self.assertEqual(unseen(p, [always]), [(0, 0)])
        with self.assertRaises(Parted) as context:
            paper(p, p - [(0, 0)])
        self.assertEqual(context.exception.parting.numbers, (3, 4))

    def test_the_paper_of_the_second_example(self):
        r = Program([("main", ["a"], [], [("put", "a", 1), ("put", "a", 1)])])
        s = r - Lot([(0, 0)])
        wanted = {
            ((0,), ((0,), (0,), ((("v", 0), ("v", 0)),))): [(("on",), ((0,), (0,), ((("n", 1), ("n", 1)),)))],
        }
        self.assertEqual(paper(r, s), wanted)
        self.assertIs(is_paper(r, s, wanted), True)
        self.assertEqual(bars(r), [((0, 0), (0, 1))])
        self.assertEqual(goes_along(r), [])
        self.assertEqual(greatest_lots(r), [Lot([(0, 0)]), Lot([(0, 1)])])
        self.assertEqual(spared(r), s)
        self.assertIs(is_free(r, [(0, 0)]), True)
        self.assertIs(is_free(r, [(0, 1)]), True)
        self.assertIs(is_free(r, r.writes()), False)

    def test_the_turns_go_along(self):
        program = Program.read(TURN_TEXT)
        self.assertIs(is_free(program, [(0, 0), (0, 1)]), True)
        self.assertIs(is_free(program, [(0, 0)]), False)
        self.assertIs(is_free(program, [(0, 1)]), False)
        self.assertEqual(goes_along(program), [((0, 0), (0, 1))])
        self.assertEqual(bars(program), [])
        self.assertEqual(greatest_lots(program), [Lot([(0, 0), (0, 1)])])
        self.assertEqual(unseen(program), [])
        struck = spared(program)
        self.assertEqual(struck, program - program.writes())
        self.assertEqual(least_promises(program, struck), [()])
        self.assertIs(is_paper(program, struck, paper(program, struck)), True)

    def test_closed_neither_upwards_nor_downwards(self):
        copies = Program([("main", ["a", "b"], [], [("copy", "a", "b"), ("copy", "a", "b"), ("tell", "a")])])
        self.assertEqual([is_free(copies, lot) for lot in ([], [(0, 0)], [(0, 1)], [(0, 0), (0, 1)])], [True, True, True, False])
        self.assertEqual(bars(copies), [((0, 0), (0, 1))])
        body = [("copy", "c", "a"), ("put", "a", 1), ("copy", "a", "c")]
        back = Program([("main", ["a"], ["c"], body)])
        first, put, last = back.writes()
        self.assertIs(is_free(back, [first, put, last]), True)
        self.assertIs(is_free(back, [last]), False)
        self.assertIs(is_free(back, [put]), True)
        self.assertIs(is_free(back, [first]), False)
        self.assertIs(is_free(back, [put, last]), True)
        self.assertEqual(greatest_lots(back), [Lot([first, put, last])])

    def test_a_write_that_is_seen_and_free(self):
        program = Program([("main", ["a", "b"], [], [("copy", "a", "b"), ("tell", "a")])])
        always = [("always", "a", "b")]
        self.assertEqual(seen(program, (0, 0), always).meeting, Meeting([["a", "b"]]))
        self.assertIs(is_free(program, [(0, 0)], always), True)

    def test_two_equal_puts(self):
        program = Program([("main", ["a"], [], [("put", "a", 1), ("put", "a", 1)])])
        self.assertEqual(program.writes(), [(0, 0), (0, 1)])
        struck = program.struck([(0, 0)])
        self.assertEqual(struck.text(), "part main (a) ()\n  rest\n  put a 1")
        self.assertNotEqual(struck, program - [(0, 1)])
        self.assertEqual(struck - [(0, 1)], program - Lot([(0, 0), (0, 1)]))

    def test_turns(self):
        program = Program.read(TURN_TEXT)
        self.assertEqual(program.text(), TURN_TEXT)
        self.assertEqual(program.writes(), [(0, 0), (0, 1)])
        self.assertEqual(len(program), 6)
        self.assertEqual(program.handed(), ("a", "b"))
        self.assertEqual(program[1, 1], ("call", "turn", ("b", "t", "t")))
        struck = program - Lot(program.writes())
        self.assertEqual(struck.text(), TURN_TEXT.replace("copy p q", "rest").replace("copy q r", "rest"))


if __name__ == "__main__":
    unittest.main()
