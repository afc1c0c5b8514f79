"""[46] to [48]: the examples of the document, as far as they show texts, writes and struck programs."""

import unittest

from idlewrites.lots import Lot
from idlewrites.programs import Program

P_TEXT = """\
part main (a b) ()
  put a 1
  put b 2
  tell a"""

Q_TEXT = """\
part main (a b) ()
  rest
  put b 2
  tell a"""

TURN_TEXT = """\
part turn (p q r) ()
  copy p q
  copy q r
part main (a b) (t)
  call turn (t a b)
  call turn (b t t)
  call turn (t a b)
  call turn (b t t)"""


class Examples(unittest.TestCase):
    def test_a_program_and_what_is_left_of_it(self):
        program = Program.read(P_TEXT)
        self.assertEqual(program.parts(), (
            ("main", ("a", "b"), (), (("put", "a", 1), ("put", "b", 2), ("tell", "a"))),
        ))
        self.assertEqual(program.writes(), [(0, 0), (0, 1)])
        struck = program - Lot([(0, 0)])
        self.assertEqual(struck.text(), Q_TEXT)
        self.assertEqual(struck, Program.read(Q_TEXT))
        self.assertEqual(struck.writes(), [(0, 1)])
        self.assertEqual(program.text(), P_TEXT)

    def test_two_equal_puts(self):
        program = Program([("main", ["a"], [], [("put", "a", 1), ("put", "a", 1)])])
        self.assertEqual(program.writes(), [(0, 0), (0, 1)])
        struck = program.struck([(0, 0)])
        self.assertEqual(struck.text(), "part main (a) ()\n  rest\n  put a 1")
        self.assertNotEqual(struck, program - [(0, 1)])
        self.assertEqual(struck - [(0, 1)], program - Lot([(0, 0), (0, 1)]))

    def test_turns(self):
        program = Program.read(TURN_TEXT)
        self.assertEqual(program.text(), TURN_TEXT)
        self.assertEqual(program.writes(), [(0, 0), (0, 1)])
        self.assertEqual(len(program), 6)
        self.assertEqual(program.handed(), ("a", "b"))
        self.assertEqual(program[1, 1], ("call", "turn", ("b", "t", "t")))
        struck = program - Lot(program.writes())
        self.assertEqual(struck.text(), TURN_TEXT.replace("copy p q", "rest").replace("copy q r", "rest"))


if __name__ == "__main__":
    unittest.main()
