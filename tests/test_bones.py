"""[24], [25]: bones, and the errors of the functions that take two programs and promises."""

import itertools
import random
import unittest

from idlewrites.choosing import bars, goes_along, greatest_lots, is_free, spared
from idlewrites.errors import BadPromise, IdleError, UnlikeBones
from idlewrites.judging import alike, good_meetings, parting
from idlewrites.lots import Lot
from idlewrites.meetings import Meeting, meetings
from idlewrites.papers import is_paper, paper
from idlewrites.playing import deeds, play
from idlewrites.programs import Program
from idlewrites.promising import breaks, least_promises
from idlewrites.seeing import seen, unseen
from tests.mates import judged_parts, mate_of
from tests.samples import EVERY_DEED, OBJECTS, as_lists, lists_of, program_parts, walked
from tests.second import slow_play


def takers(promises=()):
    """All functions that take two programs and promises."""
    return (
        lambda one, other: alike(one, other, promises),
        lambda one, other: parting(one, other, promises),
        lambda one, other: breaks(one, other, promises),
        lambda one, other: paper(one, other, promises),
        lambda one, other: is_paper(one, other, {}, promises),
        lambda one, other: is_paper(one, other, None, promises),
    )


def takers_of_one(promises):
    """All functions that take one program and promises."""
    return (
        lambda program: is_free(program, [], promises),
        lambda program: is_free(program, Lot(program.writes()), promises),
        lambda program: greatest_lots(program, promises),
        lambda program: bars(program, promises),
        lambda program: goes_along(program, promises),
        lambda program: spared(program, promises),
        lambda program: seen(program, program.writes()[0], promises),
        lambda program: unseen(program, promises),
    )


def replaced(parts, place, change):
    """Parts in which the deed at a place is changed: change returns the deeds that stand there instead."""
    if len(place) == 1:
        index = place[0]
        return parts[:index] + tuple(change(parts[index])) + parts[index + 1:]

    def inside(things, path):
        index = path[0]
        if len(path) == 1:
            return things[:index] + tuple(change(things[index])) + things[index + 1:]
        where = {"if": (1, 2), "loop": (1,), "try": (1, 3), "last": (1, 2)}[things[index][0]][path[1]]
        deed = things[index]
        deed = deed[:where] + (inside(deed[where], path[2:]),) + deed[where + 1:]
        return things[:index] + (deed,) + things[index + 1:]

    name, handed, own, body = parts[place[0]]
    return parts[:place[0]] + ((name, handed, own, inside(body, place[1:])),) + parts[place[0] + 1:]


class Bones(unittest.TestCase):
    def unlike(self, one, other, place):
        """All functions that take two programs raise UnlikeBones with this place, both ways round."""
        first, second = Program(one), Program(other)
        for function in (*takers(), *takers(["wrong"]), *takers(None), good_meetings, least_promises):
            for pair in ((first, second), (second, first)):
                with self.assertRaises(UnlikeBones) as context:
                    function(*pair)
                self.assertEqual(context.exception.place, place)
                self.assertIs(type(context.exception.place), tuple)

    def like(self, one, other):
        for pair in ((one, other), (other, one)):
            first, second = (Program(parts) for parts in pair)
            self.assertIn(alike(first, second), (True, False))
            self.assertIs(type(good_meetings(first, second)), list)
            self.assertIs(type(least_promises(first, second)), list)
            self.assertEqual(breaks(first, second, []), [])
            self.assertIn(is_paper(first, second, {}), (True, False))
            parting(first, second)

    def body(self, *deeds_of_main):
        ahead = (("in", ("p",), (), (("rest",),)), ("on", ("p",), (), ()))
        return ahead + (("main", ("a", "b"), ("t",), deeds_of_main),)

    def test_writes_that_stand_for_each_other(self):
        plain = [("put", "a", 1), ("put", "b", 1), ("put", "a", 2), ("copy", "a", "b"), ("copy", "b", "a"), ("copy", "t", "t"), ("rest",)]
        for one, other in itertools.product(plain, plain):
            self.like(self.body(one), self.body(other))
        taking = [("ask", "a"), ("ask", "t"), ("skip",)]
        for one, other in itertools.product(taking, taking):
            self.like(self.body(("tell", "a"), one), self.body(("tell", "a"), other))
        for one, other in itertools.product(plain, taking):
            self.unlike(self.body(("tell", "a"), one), self.body(("tell", "a"), other), (2, 1))

    def test_each_word_beside_each_other_one(self):
        deeds_of_all = [
            ("put", "a", 1), ("ask", "a"), ("point", "a", "b"), ("fresh", "a"), ("tell", "a"), ("call", "in", ("a",)),
            ("if", (), ()), ("loop", ()), ("fail", "a"), ("try", (), "a", ()), ("last", (), ()), ("leave",), ("stop",),
        ]
        for one, other in itertools.combinations(deeds_of_all, 2):
            inside = [self.body(("rest",), ("loop", (("rest",), deed))) for deed in (one, other)]
            self.unlike(*inside, (2, 1, 0, 1))

    def test_items(self):
        couples = [
            (("point", "a", "b"), ("point", "b", "b")), (("point", "a", "b"), ("point", "a", "t")),
            (("fresh", "a"), ("fresh", "b")), (("tell", "a"), ("tell", "b")),
            (("call", "in", ("a",)), ("call", "in", ("b",))), (("call", "in", ("a",)), ("call", "on", ("a",))),
            (("fail", "x"), ("fail", "y")), (("try", (), "x", ()), ("try", (), "y", ())),
        ]
        for one, other in couples:
            self.unlike(self.body(("skip",), one), self.body(("skip",), other), (2, 1))
            self.unlike(self.body(("if", (), (one, ("rest",)))), self.body(("if", (), (other, ("skip",)))), (2, 0, 1, 0))

    def test_lengths_of_lists(self):
        rest = (("rest",),)
        for one, other in (
            (("if", rest, ()), ("if", (), ())), (("if", (), rest), ("if", (), ())), (("if", rest, ()), ("if", (), rest)),
            (("loop", rest), ("loop", ())), (("loop", rest * 2), ("loop", rest)),
            (("try", rest, "x", ()), ("try", (), "x", ())), (("try", (), "x", rest), ("try", (), "x", ())),
            (("last", rest, ()), ("last", (), ())), (("last", (), rest), ("last", (), rest * 2)),
        ):
            self.unlike(self.body(one), self.body(other), (2, 0))
            self.unlike(self.body(("loop", (("skip",), one))), self.body(("loop", (("ask", "a"), other))), (2, 0, 0, 1))
        # A deed whose list is longer comes ahead of the deeds in its lists, and behind those ahead of it.
        self.unlike(
            self.body(("if", (("skip",), ("rest",)), ())), self.body(("if", (("rest",),), (("skip",),))), (2, 0),
        )
        self.unlike(
            self.body(("if", (("skip",),), ()), ("loop", ())), self.body(("if", (("rest",),), ()), ("loop", rest)),
            (2, 0, 0, 0),
        )

    def test_parts(self):
        base = self.body(("tell", "a"), ("call", "in", ("a",)))
        for part, place in (
            (("on", ("p",), (), (("rest",),)), (1,)), (("on", ("q",), (), ()), (1,)), (("on", (), ("p",), ()), (1,)),
            (("on", ("p", "q"), (), ()), (1,)), (("on", ("p",), ("q",), ()), (1,)), (("no", ("p",), (), ()), (1,)),
        ):
            self.unlike(base, base[:1] + (part,) + base[2:], place)
        self.unlike(base, base[:2] + (("mane", *base[2][1:]),), (2,))
        for names in ((("b", "a"), ("t",)), (("a", "b", "t"), ()), (("a", "b"), ("s",)), (("a", "b"), ("t", "s"))):
            self.unlike(base, base[:2] + (("main", *names, base[2][3]),), (2,))
        self.unlike(base, base[:2] + (("main", ("a", "b"), ("t",), base[2][3][:1]),), (2,))
        # A part ahead of its deeds, the deeds of one part ahead of the next part.
        self.unlike(base, (("in", ("p",), (), (("skip",),)), ("on", ("q",), (), ()), base[2]), (0, 0))
        self.unlike(base, (("in", ("p",), (), (("skip",), ("rest",))), ("on", ("q",), (), ()), base[2]), (0,))

    def test_a_part_more_or_less(self):
        base = self.body(("tell", "a"))
        self.unlike(base, base + (("more", (), (), ()),), (3,))
        self.unlike(base[:1], base, (1,))
        self.unlike(base[:1], (base[0], base[2]), (1,))
        self.unlike(base[1:], base, (0,))
        self.unlike(base[:1] + base[2:], base, (1,))
        self.unlike(base, base[:2] + (("main", ("a", "b"), ("t",), (("tell", "b"),)), ("more", (), (), ())), (2, 0))

    def test_first_of_several_places(self):
        chance = random.Random(25)
        for seed in range(250):
            parts = program_parts(seed)
            places = [place for place, _ in walked(parts)]
            if not places:
                continue
            mate = mate_of(parts, chance, 0.3)
            chosen = sorted(chance.sample(places, min(len(places), chance.randint(1, 3))), reverse=True)
            for place in chosen:
                mate = replaced(mate, place, self.another)
            self.unlike(parts, mate, min(chosen))

    def another(self, deed):
        return [("skip",) if deed[0] in ("put", "copy", "rest") else ("rest",)]

    def test_longer_lists_of_any_program(self):
        chance = random.Random(26)
        for seed in range(250):
            parts = program_parts(seed)
            places = [place for place, deed in walked(parts) if lists_of(deed)] + [(index,) for index in range(len(parts))]
            place = chance.choice(places)
            self.unlike(parts, replaced(parts, place, lambda thing: [self.longer(thing, chance)]), place)

    def longer(self, thing, chance):
        items = list(thing)
        at = chance.choice([at for at, item in enumerate(thing) if isinstance(item, tuple) and at and (at == 3 or len(thing) < 4)])
        items[at] += (("rest",),)
        return tuple(items)

    def test_the_same_deeds_for_the_same_answers(self):
        compared = 0
        for seed in range(300):
            chance = random.Random(seed)
            parts = judged_parts(chance)
            program = Program(parts)
            mates = [mate_of(parts, chance, 0.5)]
            writes = program.writes()
            mates += [(program - Lot(chance.sample(writes, chance.randint(0, len(writes))))).parts() for _ in range(2)]
            every = meetings(program.handed())
            for mate in mates:
                other = Program(mate)
                self.assertIn(alike(program, other), (True, False))
                one_meeting, other_meeting = chance.choice(every), chance.choice(every)
                numbers = list(range(len(one_meeting)))
                row = []
                while len(row) < 8:
                    kind = slow_play(parts, one_meeting.blocks, numbers, row).kind
                    if kind is None:
                        break
                    row.append(chance.random() < 0.5 if kind is bool else chance.randint(-3, 3))
                first = play(program, one_meeting, numbers, row)
                second = play(other, other_meeting, [9] * len(other_meeting), row)
                self.assertEqual((first.way, first.used, len(first.told)), (second.way, second.used, len(second.told)))
                places = [list(deeds(one, met, [1] * len(met), row)) for one, met in ((program, one_meeting), (other, other_meeting))]
                self.assertEqual(*places)
                compared += len(row)
        self.assertGreater(compared, 500)


class Promises(unittest.TestCase):
    ONE = Program([("main", ("c", "a", "b"), ("t", "put"), [("put", "a", 1), ("tell", "b")])])
    OTHER = ONE - [(0, 0)]

    def bad(self, promises, index):
        for function in takers(promises):
            for pair in ((self.ONE, self.OTHER), (self.ONE, self.ONE)):
                with self.assertRaises(BadPromise) as context:
                    function(*pair)
                self.assertEqual(context.exception.index, index)
                self.assertIs(type(context.exception.index), int)
                self.assertIsInstance(context.exception, IdleError)
        for function in takers_of_one(promises):
            with self.assertRaises(BadPromise) as context:
                function(self.ONE)
            self.assertEqual(context.exception.index, index)

    def test_no_list_of_promises(self):
        for thing in (None, True, False, 0, 1, "", "always", {}, {("always", "a", "b"): 1}, Lot([]), Meeting([])):
            self.bad(thing, 0)

    def test_the_first_wrong_promise(self):
        wrong = [
            ("always",), ("always", "a"), ("always", "a", "b", "c"), ("always", "b", "a"), ("never", "c", "a"), (),
            ("always", "a", "a"), ("never", "b", "b"), ("always", "a", "t"), ("never", "put", "t"), ("always", "a", "d"),
            ("often", "a", "b"), ("", "a", "b"), ("ALWAYS", "a", "b"), (True, "a", "b"), (None, "a", "b"), (["always"], "a", "b"),
            ("always", "a", 1), ("always", None, "b"), ("always", ["a"], "b"), ("always", "a", ("b",)), ("always", {}, "b"),
            ("always", True, False), ("always", 0, 1), "always", "aab", None, True, 1, {"always": 1}, {0: "always", 1: "a", 2: "b"},
            [("always", "a", "b")], (("always", "a", "b"),), ("a", "always", "b"), ("always", "a", "b "), Lot([]),
        ]
        right = [("always", "a", "b"), ("never", "a", "c"), ["always", "b", "c"]]
        for thing in wrong:
            with self.subTest(thing=thing):
                self.bad([thing], 0)
                self.bad((thing,), 0)
                self.bad([*right, thing], 3)
                self.bad([right[0], thing, None, right[1]], 1)
        for thing in OBJECTS:
            self.bad([right[0], thing], 1)

    def test_promises_as_lists_and_tuples(self):
        promises = [("always", "a", "b"), ("never", "a", "c")]
        for passed in (promises, tuple(promises), as_lists(promises), tuple(as_lists(promises)), promises + promises):
            self.assertIs(alike(self.ONE, self.OTHER, passed), False)
            self.assertEqual(parting(self.ONE, self.OTHER, passed).meeting.blocks, (("a", "b"), ("c",)))
        passed = as_lists(promises)
        parting(self.ONE, self.OTHER, promises=passed)
        self.assertEqual(passed, as_lists(promises))
        for function in (*takers_of_one(passed), lambda program: breaks(program, program, passed)):
            function(self.ONE)
            self.assertEqual(passed, as_lists(promises))
        self.assertIs(alike(self.ONE, self.OTHER, []), alike(self.ONE, self.OTHER))

    def test_a_promise_that_no_names_can_be_in(self):
        alone = Program([("main", ("a",), ("t",), [("put", "t", 1)])])
        for thing in (("always", "a", "t"), ("always", "a", "a"), ("never", "a", "b")):
            for function in takers([thing]):
                with self.assertRaises(BadPromise):
                    function(alone, alone)
            for function in takers_of_one([thing]):
                with self.assertRaises(BadPromise):
                    function(alone)
        for program in (alone, Program(EVERY_DEED)):
            self.assertIs(alike(program, program, []), True)


if __name__ == "__main__":
    unittest.main()
