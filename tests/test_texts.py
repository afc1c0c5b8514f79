"""[11], [12]: texts of programs, and reading them."""

import random
import unittest

from idlewrites.errors import BadProgram, BadText
from idlewrites.programs import Program
from tests.oracles import first_bad_line
from tests.samples import ALIKE, EVERY_DEED, EVERY_TEXT, GREAT, SIX_DEEP, as_lists, programs

HEAD = "part main (a b) (t)\n"

# Each deed as it stands in a part with the names a, b and t, behind the part p, and its lines.
DEEDS = [
    (("put", "a", 0), ["put a 0"]),
    (("put", "a", -5), ["put a -5"]),
    (("put", "t", GREAT), ["put t 1000000000000000000000000000000000000007"]),
    (("put", "t", -GREAT), ["put t -1000000000000000000000000000000000000007"]),
    (("ask", "a"), ["ask a"]),
    (("copy", "a", "b"), ["copy a b"]),
    (("rest",), ["rest"]),
    (("skip",), ["skip"]),
    (("point", "a", "b"), ["point a b"]),
    (("fresh", "t"), ["fresh t"]),
    (("tell", "b"), ["tell b"]),
    (("call", "p", ()), ["call p ()"]),
    (("call", "q", ("a",)), ["call q (a)"]),
    (("call", "r", ("a", "b", "t", "a")), ["call r (a b t a)"]),
    (("fail", "w"), ["fail w"]),
    (("leave",), ["leave"]),
    (("if", (), ()), ["if", "else"]),
    (("if", (("rest",), ("skip",)), ()), ["if", "  rest", "  skip", "else"]),
    (("if", (), (("rest",), ("skip",))), ["if", "else", "  rest", "  skip"]),
    (("loop", ()), ["loop"]),
    (("loop", (("stop",), ("rest",))), ["loop", "  stop", "  rest"]),
    (("try", (), "w", ()), ["try", "catch w"]),
    (("try", (("rest",),), "catch", (("skip",),)), ["try", "  rest", "catch catch", "  skip"]),
    (("last", (), ()), ["last", "then"]),
    (("last", (("rest",),), (("skip",),)), ["last", "  rest", "then", "  skip"]),
]

AHEAD = (("p", (), (), ()), ("q", ("a",), (), ()), ("r", ("a", "b", "c", "d"), (), ()))
AHEAD_LINES = ["part p () ()", "part q (a) ()", "part r (a b c d) ()"]

SIX_DEEP_TEXT = """\
part main () ()
  if
    loop
      try
        last
        then
          if
          else
            loop
      catch w
  else"""


class Writing(unittest.TestCase):
    def check(self, parts, lines):
        text = "\n".join(lines)
        for passed in (parts, as_lists(parts)):
            program = Program(passed)
            self.assertEqual(program.text(), text)
            self.assertIs(type(program.text()), str)
        read = Program.read(text)
        self.assertIsInstance(read, Program)
        self.assertEqual(read, Program(parts))
        self.assertEqual(read.parts(), Program(parts).parts())
        self.assertEqual(read.text(), text)

    def test_each_deed(self):
        for deed, lines in DEEDS:
            with self.subTest(deed):
                parts = (*AHEAD, ("main", ("a", "b"), ("t",), (deed,)))
                self.check(parts, [*AHEAD_LINES, HEAD[:-1], *["  " + line for line in lines]])

    def test_each_deed_in_each_list(self):
        for deed, lines in DEEDS:
            inner = ["    " + line for line in lines]
            for around, first, second in (
                (lambda deeds: ("if", deeds, deeds), "  if", "  else"),
                (lambda deeds: ("try", deeds, "oops", deeds), "  try", "  catch oops"),
                (lambda deeds: ("last", deeds, deeds), "  last", "  then"),
            ):
                with self.subTest(deed, first=first):
                    body = (around((deed, ("rest",))), ("skip",))
                    wanted = [first, *inner, "    rest", second, *inner, "    rest", "  skip"]
                    self.check((*AHEAD, ("main", ("a", "b"), ("t",), body)), [*AHEAD_LINES, HEAD[:-1], *wanted])
            body = (("loop", (deed, ("rest",))), ("skip",))
            wanted = ["  loop", *inner, "    rest", "  skip"]
            self.check((*AHEAD, ("main", ("a", "b"), ("t",), body)), [*AHEAD_LINES, HEAD[:-1], *wanted])

    def test_all_deeds_one_after_the_other(self):
        body = tuple(deed for deed, _ in DEEDS)
        lines = ["  " + line for _, lines in DEEDS for line in lines]
        self.check((*AHEAD, ("main", ("a", "b"), ("t",), body)), [*AHEAD_LINES, HEAD[:-1], *lines])

    def test_parts_without_names_and_deeds(self):
        self.check((("m", (), (), ()),), ["part m () ()"])
        self.check((("m", (), ("a",), ()),), ["part m () (a)"])
        self.check((("m", ("a",), (), ()),), ["part m (a) ()"])
        self.check(
            (("m", (), (), ()), ("abcdefgh", ("b", "a"), ("d", "c"), ()), ("n", (), (), (("rest",),))),
            ["part m () ()", "part abcdefgh (b a) (d c)", "part n () ()", "  rest"],
        )

    def test_samples(self):
        self.check(EVERY_DEED, EVERY_TEXT.split("\n"))
        self.check(SIX_DEEP, SIX_DEEP_TEXT.split("\n"))
        self.check(ALIKE, [
            "part put (put part) (else)", "  put put 1", "  fail put", "part part () (put if)",
            "  call put (put if)", "  try", "    fail if", "  catch part", "    copy if put",
            "part else (else) (part)", "  call part ()", "  tell else",
        ])

    def test_many_programs(self):
        for number, program in enumerate(programs(300)):
            with self.subTest(number):
                text = program.text()
                self.assertIsNone(first_bad_line(text))
                self.assertEqual(Program.read(text), program)
                self.assertEqual(Program.read(text).text(), text)

    def test_a_long_text(self):
        body = tuple(("put", "abcdefgh", 10 ** 39 + n) for n in range(60)) * 5
        program = Program([("m", ["abcdefgh"], [], body)])
        self.assertEqual(Program.read(program.text()), program)

    def test_beyond_the_limits(self):
        deep = ()
        for _ in range(40):
            deep = (("loop", deep), ("if", (), ()))
        program = Program([(name, tuple("abcdefghij"), ("k",), deep) for name in "abcdefghi"])
        self.assertEqual(Program.read(program.text()), program)
        program = Program([("m", ["a"], [], [("put", "a", -10 ** 60)])])
        self.assertEqual(Program.read(program.text()), program)


class BadTexts(unittest.TestCase):
    def refused(self, text, line):
        self.assertEqual(first_bad_line(text), line)
        with self.assertRaises(BadText) as context:
            Program.read(text)
        self.assertEqual(context.exception.line, line)
        self.assertIs(type(context.exception.line), int)

    def wrong(self, text, place):
        self.assertIsNone(first_bad_line(text))
        with self.assertRaises(BadProgram) as context:
            Program.read(text)
        self.assertEqual(context.exception.place, place)

    def test_no_part(self):
        for text in ("", " ", "\n", "\n\n", "  rest", "rest", "main", "else", "part", "\npart m () ()", "  ", "()"):
            with self.subTest(text):
                self.refused(text, 1)

    def test_lines_of_parts(self):
        for line in (
            "part m", "part m ()", "part m ()()", "part m () () ", " part m () ()", "  part m () ()", "part  m () ()",
            "part m  () ()", "part m ()  ()", "part m () () ()", "part () ()", "part M () ()", "part ninechars () ()",
            "part m (A) ()", "part m (a  b) ()", "part m ( a) ()", "part m (a ) ()", "part m (a,b) ()", "part m ( ) ()",
            "part m () (ninechars)", "part m () ( )", "part m () (a", "part m () a)", "part m a ()", "part m (a ()",
            "part m a) ()", "part m (a) b", "part m ((a)) ()", "part m () (())", "part m (1) ()", "part 1 () ()",
            "Part m () ()", "part m () ()\t", "part\tm () ()", "part m () ()\r", "part m (a) (b) (c)", "part m (a)(b)",
            "part m n () ()", "part m ( ()", "part m () (", "part m ) ()", "part m () )", "part m (() ()", "part m () ())",
            "part m (a) (b) x", "part m [a] ()", "partm () ()", "m () ()", "part m () ()\u00a0", "part m (\u00e4) ()",
            "part m )( ()", "part m (a)  (b)", "part m (a) ( b)",
        ):
            with self.subTest(line):
                self.refused(line, 1)
                self.refused("part p (a) ()\n  rest\n" + line, 3)
                self.refused("part p (a) ()\n" + line + "\n  rest", 2)

    def test_lines_of_deeds(self):
        for line in (
            "put", "put a", "put a 1 1", "put a b", "put 1 a", "put a 01", "put a -0", "put a +1", "put a 1_0", "put a 1.0",
            "put a 00", "put a -01", "put a --1", "put a -", "put a 1-", "put a - 1", "put a 0x1", "put a True",
            "put a 1e3", "put a (1)", "put A 1", "put ninechars 1", "put  a 1", "put a  1", "put a 1 ", "Put a 1",
            "put a \u0661", "put a \u00b2", "put \u00e4 1", "put a 1,", "put (a) 1", "put a1 1", "put a 1\r", "put a\t1",
            "ask", "ask a b", "ask 1", "ask A", "ask a ", "ask  a", "ask (a)", "ask ninechars", "ask()",
            "copy", "copy a", "copy a b t", "copy a 1", "copy a  b", "copy ab", "copy A b", "copy a B",
            "rest a", "rest ", "rest ()", "Rest", "resta", "skip 1", "skip ", "skips", "leave a", "leave ", "stop a", "stop ",
            "point", "point a", "point a b t", "point a 1", "fresh", "fresh a b", "fresh 1", "tell", "tell a b", "tell 1",
            "call", "call p", "call p a", "call p(a)", "call p ( a)", "call p (a b", "call p (a  b)", "call p (a) ",
            "call p (a) (b)", "call P ()", "call  p ()", "call p  ()", "call ()", "call (a)", "call p a b", "call p (a,b)",
            "call p (A)", "call p ( )", "call p (", "call p )", "call ninechars ()", "call p (ninechars)", "call p ((a))",
            "call p (a 1)", "call p ()()", "call p () ", "call 1 ()",
            "fail", "fail w w", "fail W", "fail 1", "fail ninechars", "fail w ", "fail (w)",
            "if ", "if a", "if a b", "if () ()", "If", "loop ", "loop a", "loop ()", "try ", "try w", "try a w b", "try () w ()",
            "last ", "last a", "last a b", "else", "else ", "catch w", "catch", "then", "then ", "catch w w",
            "part m () ()", "", " ", "  ", "write a", "part", "a", "#", "put a 1 # b", "rest;", "end",
        ):
            with self.subTest(line):
                self.refused(HEAD + "  " + line, 2)
                self.refused(HEAD + "  rest\n  " + line + "\n  rest", 3)
                self.refused(HEAD + "  if\n    " + line, 3)
                self.refused(HEAD + "  loop\n    rest\n    " + line + "\nelse", 4)

    def test_margins(self):
        for line in ("rest", " rest", "   rest", "    rest", "     rest", "\trest", "\t\trest", "      rest"):
            self.refused(HEAD + line, 2)
            self.refused(HEAD + "  rest\n" + line, 3)
        self.refused(HEAD + "  loop\n      rest", 3)
        self.refused(HEAD + "  loop\n    rest\n   rest", 4)
        self.refused(HEAD + "  loop\n    rest\n     rest", 4)
        self.refused(HEAD + "  loop\nrest", 3)
        self.refused(HEAD + "  if\n  rest", 3)
        self.refused(HEAD + "  if\n    else", 3)
        self.refused(HEAD + "  if\nelse", 3)
        self.refused(HEAD + "  if\n   else", 3)
        self.refused(HEAD + "  if\n  else\n  else", 4)
        self.refused(HEAD + "  if\n    rest\n  else\n      rest", 5)
        self.refused(HEAD + "  if\n    if\n  else", 4)
        self.refused(HEAD + "  if\n    loop\n      rest\n    else", 5)
        self.refused(HEAD + "  rest\n  part m () ()", 3)

    def test_middles(self):
        for word, middle in (("if", "else"), ("try", "catch w"), ("last", "then"), ("loop", None)):
            for line in ("else", "catch w", "then", "catch", "else w", "then w", "catch W", "catch w w", "else ", "elsex"):
                if line == middle:
                    self.assertIsNotNone(Program.read(HEAD + f"  {word}\n  {line}"))
                    self.assertIsNotNone(Program.read(HEAD + f"  {word}\n    rest\n  {line}\n    rest"))
                else:
                    self.refused(HEAD + f"  {word}\n  {line}", 3)
                    self.refused(HEAD + f"  {word}\n    rest\n  {line}", 4)

    def test_more_lines_are_needed(self):
        for word in ("if", "try", "last"):
            self.refused(HEAD + f"  {word}", 3)
            self.refused(HEAD + f"  {word}\n    rest", 4)
            self.refused(HEAD + f"  {word}\n    loop", 4)
            self.refused(HEAD + f"  loop\n    {word}", 4)
            self.refused(HEAD + f"  loop\n    {word}\n      rest\n      rest", 6)
            self.refused(HEAD + f"  if\n  else\n    {word}", 5)
            self.refused(HEAD + f"  {word}\npart n () ()", 3)
            self.refused(HEAD + f"  {word}\n    {word}", 4)
        self.refused(HEAD + "  stop\n  try", 4)

    def test_a_line_feed_at_the_end(self):
        self.refused("part m () ()\n", 2)
        self.refused(EVERY_TEXT + "\n", len(EVERY_TEXT.split("\n")) + 1)
        self.refused(HEAD + "\n  rest", 2)
        self.refused(HEAD + "  rest\n\npart n () ()", 3)
        self.refused("\n" + EVERY_TEXT, 1)

    def test_other_ends_of_lines(self):
        for sign in ("\r\n", "\r", "\x0b", "\x0c", "\x1c", "\x85", "\u2028"):
            self.refused("part m () ()" + sign + "  rest", 1)
            self.refused(HEAD + "  rest" + sign + "  rest", 2)

    def test_bad_text_before_bad_program(self):
        self.refused("part m () ()\n  stop\n rest", 3)
        self.refused("part m (a a) ()\n  tell b\n  if", 4)
        self.refused("part m () ()\npart m () ()\n  put a 01", 3)

    def test_bad_program_if_each_line_can_stand(self):
        self.wrong("part m (a a) ()\n  tell b", (0,))
        self.wrong("part m (a) (a)", (0,))
        self.wrong("part m () ()\npart m () ()", (1,))
        self.wrong("part m () ()\n  rest\n  stop", (0, 1))
        self.wrong("part m (a) ()\n  put b 1", (0, 0))
        self.wrong("part m (a) ()\n  call m (a)", (0, 0))
        self.wrong("part m (a) ()\n  call n (a)", (0, 0))
        self.wrong("part m (a) ()\npart n (a) ()\n  call m (a a)", (1, 0))
        self.wrong("part m (a) ()\npart n (a) ()\n  call m (x)", (1, 0))
        self.wrong("part m () ()\n  if\n    rest\n  else\n    rest\n    tell a\n  stop", (0, 0, 1, 1))
        self.wrong("part m () ()\n  loop\n    stop\n  last\n  then\n    stop", (0, 1, 1, 0))
        self.wrong("part m () ()\n  try\n    copy a b\n  catch w", (0, 0, 0, 0))

    def test_changed_texts(self):
        chance = random.Random(12)
        texts = [EVERY_TEXT, SIX_DEEP_TEXT, *[program.text() for program in programs(60)]]
        told = {"bad": 0, "wrong": 0, "read": 0}
        for number in range(15000):
            text = chance.choice(texts)
            for _ in range(chance.choice((1, 1, 1, 2))):
                text = changed(text, chance, texts)
            line = first_bad_line(text)
            try:
                program = Program.read(text)
            except BadText as error:
                self.assertEqual(error.line, line, text)
                told["bad"] += 1
            except BadProgram:
                self.assertIsNone(line, text)
                told["wrong"] += 1
            else:
                self.assertIsNone(line, text)
                self.assertEqual(program.text(), text)
                told["read"] += 1
        self.assertGreater(min(told.values()), 300, told)


def changed(text, chance, texts):
    """The text with one change: a line left out, doubled, put in, shifted, or a sign too many or too few."""
    lines = text.split("\n")
    at = chance.randrange(len(lines))
    what = chance.randrange(9)
    if what == 0:
        del lines[at]
    elif what == 1:
        lines.insert(at, lines[at])
    elif what == 2:
        lines.insert(at, chance.choice(chance.choice(texts).split("\n")))
    elif what == 3:
        lines[at] = chance.choice((" ", "  ", "    ")) + lines[at]
    elif what == 4:
        lines[at] = lines[at][chance.choice((1, 2, 4)):]
    elif what == 5:
        del lines[at:]
    elif what == 6:
        other = chance.randrange(len(lines))
        lines[at], lines[other] = lines[other], lines[at]
    else:
        return with_a_sign_changed(text, chance)
    return "\n".join(lines)


def with_a_sign_changed(text, chance):
    at = chance.randrange(len(text) + 1)
    what = chance.randrange(4)
    if what == 0:
        return text[:at] + text[at + 1:]
    if what == 1:
        return text[:at] + chance.choice(" ()\nab01-") + text[at:]
    if what == 2:
        return text[:at]
    return text + chance.choice(("\n", " ", "\n  rest", "\npart zz () ()", "\n    rest"))


if __name__ == "__main__":
    unittest.main()
