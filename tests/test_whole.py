"""What the document promises over the whole program: that all that is told of programs agrees.

Free lots, numbers that come out, least promises and papers ([34], [37], [44]); the same with other names
([3]); all fifteen meetings of four names; programs at the limits ([5]); functions that are asked by turns.
"""

import itertools
import random
import unittest

from idlewrites.choosing import bars, goes_along, greatest_lots, is_free, spared
from idlewrites.errors import Parted, TooMany
from idlewrites.judging import alike, good_meetings, parting
from idlewrites.lots import Lot
from idlewrites.meetings import Meeting, meetings
from idlewrites.papers import is_paper, paper
from idlewrites.playing import play
from idlewrites.programs import Program
from idlewrites.promising import breaks, least_promises
from idlewrites.seeing import seen, unseen
from tests.mates import SPELLED, judged_parts, mate_of, respelled, some_promises
from tests.samples import GREAT, SIX_DEEP, TURN, program_parts
from tests.second import keeps_all, slow_play
from tests.tables import slow_paper
from tests.tellings import changed, passed_told, slow_seen, writes_of
from tests.test_limits import HANDED, NAMES, chosen, main_of, tower

APART = [("never", *pair) for pair in itertools.combinations(HANDED, 2)]


def told_by(run):
    return run and (run.meeting.blocks, run.numbers, run.answers, [(talk.told, talk.way, talk.left, talk.used) for talk in run.talks])


def seen_by(sight):
    return sight and (sight.meeting.blocks, sight.numbers, sight.answers, (sight.talk.told, sight.talk.way, sight.talk.left, sight.talk.used))


def kinds(answers):
    """The answers, all integers alike."""
    return [answer if isinstance(answer, bool) else None for answer in answers]


def promises_of(meeting):
    """All promises that a meeting keeps: no other meeting keeps them all."""
    return [("always" if meeting.one(*pair) else "never", *pair) for pair in itertools.combinations(meeting.names, 2)]


def some_programs(count, seed, **sizes):
    """Tuples (chance, program, promises)."""
    for number in range(count):
        chance = random.Random(seed * 1000003 + number)
        parts = judged_parts(chance, **sizes)
        if number % 3 == 0:
            parts = respelled(parts)
        if number % 2:
            parts = changed(parts, lambda place, deed: [deed] * chance.choice((1, 1, 2)))
        yield chance, Program(parts), some_promises(chance, parts[-1][1])


class Agreeing(unittest.TestCase):
    def test_free_lots_and_what_alike_parting_and_papers_tell(self):
        told = [0, 0]
        for chance, program, promises in some_programs(500, 1):
            writes = program.writes()
            lot = chance.sample(writes, chance.randint(0, min(len(writes), 3)))
            struck = program - lot
            free = is_free(program, lot, promises)
            told[free] += 1
            self.assertIs(alike(program, struck, promises), free)
            self.assertIs(alike(struck, program, promises), free)
            run = parting(program, struck, promises)
            self.assertIs(run is None, free)
            good = {meeting.blocks for meeting in good_meetings(program, struck)}
            kept = [meeting.blocks for meeting in meetings(program.handed()) if keeps_all(meeting.blocks, promises)]
            self.assertIs(set(kept) <= good, free)
            if free:
                self.assertIs(is_paper(program, struck, paper(program, struck, promises), promises), True)
                continue
            self.assertNotIn(run.meeting.blocks, good)
            self.assertIn(run.meeting.blocks, kept)
            with self.assertRaises(Parted) as context:
                paper(program, struck, promises)
            self.assertEqual(told_by(context.exception.parting), told_by(run))
        self.assertGreater(min(told), 60)

    def test_least_promises_and_what_is_free_under_them(self):
        found = 0
        for chance, program, promises in some_programs(150, 2):
            writes = program.writes()
            lot = chance.sample(writes, chance.randint(0, min(len(writes), 3)))
            struck = program - lot
            least = least_promises(program, struck)
            self.assertEqual(least == [()], is_free(program, lot))
            for chosen_ones in least:
                self.assertIs(is_free(program, lot, chosen_ones), True)
                self.assertIs(is_paper(program, struck, paper(program, struck, chosen_ones), chosen_ones), True)
                for at, run in enumerate(breaks(program, struck, chosen_ones)):
                    others = chosen_ones[:at] + chosen_ones[at + 1:]
                    self.assertIs(is_free(program, lot, others), False)
                    self.assertEqual(told_by(run), told_by(parting(program, struck, others)))
                    found += 1
            for meeting in meetings(program.handed()):
                every = promises_of(meeting)
                self.assertIs(is_free(program, lot, every), any(set(one) <= set(every) for one in least))
        self.assertGreater(found, 10)

    def test_what_is_unseen_is_free(self):
        found = 0
        for chance, program, promises in some_programs(200, 3):
            places = unseen(program, promises)
            self.assertEqual(places, sorted(set(places)))
            self.assertEqual(places, [place for place in program.writes() if seen(program, place, promises) is None])
            self.assertIs(is_free(program, Lot(places), promises), True)
            struck = program - places
            self.assertIs(is_paper(program, struck, paper(program, struck, promises), promises), True)
            # What is left of it comes out as before.
            for place in struck.writes():
                before, after = seen(program, place, promises), seen(struck, place, promises)
                self.assertEqual((before.meeting, kinds(before.answers)), (after.meeting, kinds(after.answers)))
            self.assertEqual(unseen(struck, promises), [])
            if len(program.writes()) <= 7:
                self.assertTrue(any(Lot(places) <= lot for lot in greatest_lots(program, promises)))
            found += len(places)
        self.assertGreater(found, 200)

    def test_sights(self):
        found = 0
        for chance, program, promises in some_programs(400, 4):
            # Each put writes a number of its own, which is told or left in its sight.
            numbers = itertools.count(1)
            parts = changed(program.parts(), lambda place, deed: [("put", deed[1], next(numbers)) if deed[0] == "put" else deed])
            program = Program(parts)
            for place in program.writes():
                sight = seen(program, place, promises)
                if sight is None:
                    continue
                self.assertTrue(keeps_all(sight.meeting.blocks, promises))
                self.assertEqual(sight.talk, play(program, sight.meeting, sight.numbers, sight.answers))
                self.assertEqual(sight.talk.used, len(sight.answers))
                self.assertTrue(passed_told(parts, sight.meeting.blocks, sight.numbers, sight.answers, place))
                if program[place][0] == "put":
                    self.assertIn(program[place][2], sight.talk.told + (sight.talk.left or ()))
                    found += 1
        self.assertGreater(found, 80)

    def test_greatest_lots_bars_and_writes_that_go_along(self):
        told = [0, 0, 0]
        turns = [(None, Program(TURN), promises) for promises in ([], APART[:1])]
        for _, program, promises in itertools.chain(turns, some_programs(450, 5, room=8)):
            if len(program.writes()) > 7:
                continue
            greatest = greatest_lots(program, promises)
            for lot in greatest:
                self.assertIs(is_free(program, lot, promises), True)
                more = [place for place in program.writes() if place not in lot]
                self.assertFalse(any(is_free(program, [*lot.places, place], promises) for place in more))
            struck = spared(program, promises)
            self.assertEqual(struck, program - greatest[0])
            # A free lot of it would be free in the program together with the lot that is struck.
            self.assertEqual(greatest_lots(struck, promises), [Lot([])])
            self.assertIs(is_paper(program, struck, paper(program, struck, promises), promises), True)
            for pair in bars(program, promises):
                told[0] += 1
                self.assertFalse(any(set(pair) == set(lot.places) for lot in greatest))
                self.assertIs(is_free(program, pair, promises), False)
                self.assertTrue(all(is_free(program, [place], promises) for place in pair))
            for pair in goes_along(program, promises):
                told[1] += 1
                self.assertTrue(any(Lot(pair) <= lot for lot in greatest))
                self.assertFalse(any(is_free(program, [place], promises) for place in pair))
            told[2] += len(greatest) > 1
        self.assertGreater(min(told[0], told[2]), 10)
        self.assertGreater(told[1], 0)

    def test_promises_that_no_meeting_keeps(self):
        both = [("always", "a", "b"), ("never", "a", "b")]
        for chance, program, _ in some_programs(60, 6):
            if not {"a", "b"} <= set(program.handed()) or len(program.writes()) > 7:
                continue
            writes = program.writes()
            struck = program - writes
            self.assertIs(is_free(program, writes, both), True)
            self.assertEqual(greatest_lots(program, both), [Lot(writes)])
            self.assertEqual(spared(program, both), struck)
            self.assertEqual((bars(program, both), goes_along(program, both)), ([], []))
            self.assertEqual(unseen(program, both), writes)
            self.assertEqual(paper(program, struck, both), {})
            self.assertIs(is_paper(program, struck, {}, both), True)
            self.assertIsNone(parting(program, struck, both))


class Spelled(unittest.TestCase):
    """Names of cells, parts and words make no difference but for the order in which they come."""

    def test_other_names(self):
        for number in range(120):
            chance = random.Random(number)
            parts = judged_parts(chance)
            others = respelled(parts)
            promises = some_promises(chance, parts[-1][1])
            here, there = Program(parts), Program(others)
            told = [renamed(promise) for promise in promises]
            self.assertEqual(here.writes(), there.writes())
            self.assertEqual(unseen(here, promises), unseen(there, told))
            self.assertEqual(bars(here, promises), bars(there, told))
            self.assertEqual(goes_along(here, promises), goes_along(there, told))
            if len(here.writes()) <= 7:
                self.assertEqual(greatest_lots(here, promises), greatest_lots(there, told))
                self.assertEqual(spared(here, promises).parts(), Program(parts).struck(greatest_lots(there, told)[0]).parts())
            for lot in ([], here.writes(), *([place] for place in here.writes())):
                self.assertIs(is_free(here, lot, promises), is_free(there, lot, told))
            for place in here.writes():
                before, after = seen(here, place, promises), seen(there, place, told)
                self.assertEqual(before and len(before.answers), after and len(after.answers))
            mate, other_mate = here - here.writes()[:1], there - there.writes()[:1]
            least = [tuple(sorted(renamed(promise) for promise in one)) for one in least_promises(here, mate)]
            self.assertEqual(sorted(least, key=lambda one: (len(one), one)), least_promises(there, other_mate))
            if alike(here, mate, promises):
                table = paper(there, other_mate, told)
                self.assertEqual(self.spelled(paper(here, mate, promises)), table)
                self.assertIs(is_paper(here, mate, paper(here, mate, promises), promises), True)

    def spelled(self, table):
        """A paper with the words of faults respelled."""
        return {
            key: sorted((way if len(way) == 1 else (way[0], SPELLED[way[1]]), end) for way, end in ends)
            for key, ends in table.items()
        }

    def test_names_in_the_same_order(self):
        # With names that come in the same order all is the same, the runs that are told as well.
        names = {"a": "b", "b": "ba", "c": "bb", "d": "c", "t": "zz", "u": "a", "turn": "main", "main": "turn", "x": "y", "y": "z", "z": "x"}
        names["oops"] = "other"
        for number in range(80):
            chance = random.Random(number)
            parts = judged_parts(chance)
            here, there = Program(parts), Program(named(parts, names))
            for place in here.writes():
                for one, other in (
                    (parting(here, here - [place]), parting(there, there - [place])), (seen(here, place), seen(there, place)),
                ):
                    self.assertEqual(one is None, other is None)
                    if one is not None:
                        self.assertEqual((one.meeting.code, one.numbers, one.answers), (other.meeting.code, other.numbers, other.answers))


def renamed(promise):
    word, name, other = promise
    return word, *sorted((SPELLED[name], SPELLED[other]))


def named(thing, names):
    """Parts with other names; the words of deeds stay."""
    found = []
    for name, handed, own, body in thing:
        found.append((names[name], [names[one] for one in handed], [names[one] for one in own], [named_deed(deed, names) for deed in body]))
    return found


def named_deed(deed, names):
    items = [deed[0]]
    for item in deed[1:]:
        if isinstance(item, tuple):
            items.append([names[one] if isinstance(one, str) else named_deed(one, names) for one in item])
        else:
            items.append(names[item] if isinstance(item, str) else item)
    return items


class FourNames(unittest.TestCase):
    def test_all_fifteen_meetings(self):
        every = meetings(HANDED)
        self.assertEqual(len(every), 15)
        told = [0, 0]
        for number in range(60):
            chance = random.Random(number)
            parts = judged_parts(chance, handed=4, room=12)
            parts = (*parts[:-1], ("main", HANDED, ("t",), parts[-1][3]))
            if len(set(parts[-1][1]) | {"u"}) < 5 or "u" in str(parts[-1][3]):
                continue
            program = Program(parts)
            lot = chance.sample(program.writes(), min(2, len(program.writes())))
            struck = program - lot
            good = good_meetings(program, struck)
            for meeting in every:
                promises = promises_of(meeting)
                free = is_free(program, lot, promises)
                self.assertIs(free, meeting in good)
                told[free] += 1
                for place in program.writes()[:3]:
                    sight = seen(program, place, promises)
                    self.assertIn(sight and sight.meeting, (None, meeting))
                    self.assertIs(sight is None, place in unseen(program, promises))
                if free:
                    table = paper(program, struck, promises)
                    self.assertEqual(table, slow_paper(parts, struck.parts(), promises))
            least = least_promises(program, struck)
            self.assertEqual([meeting for meeting in every if any(keeps_all(meeting.blocks, one) for one in least)], [
                meeting for meeting in good if any(keeps_all(meeting.blocks, one) for one in least)
            ])
            for meeting in good:
                self.assertTrue(any(keeps_all(meeting.blocks, one) for one in least))
        self.assertGreater(min(told), 50)

    def test_puts_in_two_orders(self):
        puts = [("put", name, number) for number, name in enumerate(HANDED)]
        one, other = main_of(puts, own=()), main_of(puts[::-1], own=())
        (least,) = least_promises(one, other)
        self.assertEqual(least, tuple(APART))
        self.assertEqual(len(paper(one, other, least)), 1)
        runs = breaks(one, other, least)
        for left_out, run in zip(least, runs):
            self.assertEqual(run.meeting, Meeting([left_out[1:], *([name] for name in HANDED if name not in left_out)]))
            self.assertEqual((run.numbers, run.answers), ((4, 5, 6), ()))
        self.assertEqual(len(paper(one, one)), 15)


def deepest_parts():
    """One part whose lists are six deep, the body being the first, with a write in each of them."""
    inner = [("put", "a", 10 ** 29 + 5), ("copy", "t", "a"), ("tell", "t")]
    for number in range(5):
        write = ("put", "b", -(10 ** 29) - number)
        inner = [
            [write, ("if", inner, [("ask", "t")])], [write, ("loop", inner)], [write, ("try", inner, "x", [("fail", "y")])],
            [write, ("last", inner, [("copy", "b", "t")])], [write, ("if", [], inner)],
        ][number]
    return [("main", ("a", "b"), ("t",), inner)]


class Limits(unittest.TestCase):
    def everything(self, program, lot, promises=(), free=True):
        """All that can be asked of a program, held against one another; the lot is free or not."""
        struck = program - lot
        self.assertIs(is_free(program, lot, promises), free)
        self.assertIs(alike(program, struck, promises), free)
        least = least_promises(program, struck)
        self.assertEqual(breaks(program, struck, promises), [None] * len(promises)) if least == [()] else None
        unseen_ones = unseen(program, promises)
        self.assertIs(is_free(program, Lot(unseen_ones), promises), True)
        barred, along = bars(program, promises), goes_along(program, promises)
        self.assertEqual((barred, along), (sorted(set(barred)), sorted(set(along))))
        if len(program.writes()) > 7:
            with self.assertRaises(TooMany) as context:
                greatest_lots(program, promises)
            self.assertEqual(context.exception.n, len(program.writes()))
            with self.assertRaises(TooMany):
                spared(program, promises)
        else:
            self.assertTrue(any(Lot(unseen_ones) <= one for one in greatest_lots(program, promises)))
        if free:
            table = paper(program, struck, promises)
            self.assertIs(is_paper(program, struck, table, promises), True)
            key = next(iter(table))
            del table[key]
            self.assertIs(is_paper(program, struck, table, promises), False)
        else:
            with self.assertRaises(Parted):
                paper(program, struck, promises)
        return unseen_ones

    def test_six_parts_of_calls(self):
        body = [("copy", "a", "b"), ("copy", "t", "a"), ("copy", "b", "c"), ("copy", "c", "t"), ("put", "u", 3),
                ("copy", "u", "a"), ("rest",), ("copy", "d", "u"), ("put", "v", 1), ("copy", "v", "a")]
        program = tower(body, 10)
        self.assertEqual((len(program), len(program.parts())), (60, 6))
        unseen_ones = self.everything(program, [(0, 4), (0, 8), (0, 9)])
        self.assertEqual(unseen_ones, [(0, 4), (0, 8), (0, 9)])
        self.assertEqual(seen(program, (0, 0)).answers, ())

    def test_ways_through_many_choices(self):
        chance = random.Random(5)
        body = []
        for number in range(19):
            first, second = chance.sample(NAMES, 2)
            body.append(("if", [("put", first, number)], [("copy", first, second)]))
        program = main_of([*body, ("put", "t", 5), ("put", "t", 6), ("tell", "t")])
        self.assertEqual(len(program), 60)
        unseen_ones = self.everything(program, [(0, 19)], APART)
        self.assertIn((0, 19), unseen_ones)
        sight = seen(program, (0, 20))
        self.assertEqual((sight.answers, sight.talk.told), ((False,) * 19, (6,)))
        self.everything(program, [(0, 20)], (), False)

    def test_choices_in_a_loop(self):
        chance = random.Random(6)
        copies = [("copy", *chance.sample(NAMES[:5], 2)) for _ in range(26)]
        program = main_of([("loop", chosen(copies)), ("put", "t", 1), ("fresh", "t"), ("tell", "a"), ("tell", "t")], HANDED, ("t",))
        self.assertGreater(len(program), 54)
        self.everything(program, [(0, 1)], [("always", "a", "b"), ("always", "c", "d")])

    def test_faults_and_lasts(self):
        body = [("put", "a", 1)]
        for word in ("w", "x", "y", "z"):
            body = [("if", [("fail", word)], []), ("try", body, word, [("put", "t", 4)])]
            body = [("last", body, [("copy", "u", "t"), ("if", [("leave",)], [])]), ("copy", "v", "u")]
        program = main_of([("loop", [("last", body, [])]), ("tell", "a")])
        idle = [place for place in program.writes() if program[place][1] in ("t", "u", "v")]
        self.assertEqual(self.everything(program, idle), idle)
        self.everything(program, [place for place in program.writes() if place not in idle], (), False)

    def test_names_that_are_moved_in_a_loop(self):
        moves = [("point", "t", "a"), ("fresh", "t"), ("point", "a", "b"), ("copy", "t", "a"), ("ask", "t")]
        program = main_of([("loop", chosen(moves)), ("copy", "u", "a"), ("tell", "b")], HANDED[:2], ("t", "u"))
        self.assertEqual(self.everything(program, [(0, 1)]), [(0, 1)])

    def test_lists_six_deep_and_numbers_of_thirty_digits(self):
        program = Program(deepest_parts())
        self.assertEqual(max(len(place) for place in program.writes()), 12)
        places = unseen(program)
        self.everything(program, places)
        self.everything(program, program.writes(), (), False)
        for place in program.writes():
            sight = seen(program, place)
            self.assertEqual(seen_by(sight) and seen_by(sight)[:3], slow_seen(program.parts(), place))
            if sight is not None:
                self.assertEqual(sight.numbers[0], 10 ** 29 + 6)
        table = paper(program, program - places)
        self.assertEqual(table, slow_paper(program.parts(), (program - places).parts()))
        self.assertIn(str(10 ** 29 + 5), str(table))
        program = Program(SIX_DEEP)
        self.assertEqual(paper(program, program), slow_paper(SIX_DEEP, SIX_DEEP))

    def test_numbers_of_forty_digits(self):
        program = main_of([("put", "a", GREAT), ("put", "a", -GREAT), ("ask", "b"), ("tell", "a")], ("a", "b"), ())
        sight = seen(program, (0, 1))
        self.assertEqual((sight.numbers, sight.answers), ((GREAT + 1, GREAT + 2), (GREAT + 3,)))
        self.assertEqual(sight.talk.told, (-GREAT,))
        table = paper(program, program - [(0, 0)])
        self.assertEqual(table, slow_paper(program.parts(), (program - [(0, 0)]).parts()))
        self.assertIs(is_paper(program, program - [(0, 0)], table), True)

    def test_long_rows(self):
        # The number moves a cell in each turn of a loop of a part that is called.
        moves = [("copy", name, ahead) for name, ahead in zip(NAMES[4:0:-1], NAMES[3::-1])]
        parts = [
            ("turn", NAMES[:4], ("t",), [("copy", "t", "a"), ("if", [("skip",), *moves[1:], ("copy", "a", "t")], [("leave",)])]),
            ("main", HANDED, (), [("put", "a", 1), ("put", "b", 2), ("put", "c", 2), ("put", "d", 2), ("loop", [("call", "turn", HANDED), ("put", "a", 2)]),
                                  ("tell", "d"), *[("put", name, 0) for name in HANDED]]),
        ]
        program = Program(parts)
        sight = seen(program, (1, 0), APART)
        self.assertGreaterEqual(len(sight.answers), 10)
        self.assertEqual(sight.talk.told, (1,))
        self.assertEqual(seen_by(sight)[:3], slow_seen(program.parts(), (1, 0), APART))
        run = parting(program, program - [(1, 0)], APART)
        self.assertEqual((run.numbers, run.answers), (sight.numbers, sight.answers))
        self.assertEqual(run.talks[0].told, (1,))
        self.assertNotEqual(run.talks[1].told, (1,))

    def test_some_sixty_deeds(self):
        for seed in range(30):
            chance = random.Random(seed)
            parts = judged_parts(chance, most_parts=6, room=60, handed=4, deepest=6)
            program = Program(parts)
            self.everything(program, unseen(program))
            for place in program.writes()[:5]:
                sight = seen(program, place)
                if sight is not None and len(sight.answers) < 30:
                    slow = slow_play(parts, sight.meeting.blocks, sight.numbers, sight.answers)
                    self.assertEqual((tuple(slow.told), slow.way, slow.left), (sight.talk.told, sight.talk.way, sight.talk.left))

    def test_programs_of_all_kinds(self):
        for seed in range(60):
            program = Program(program_parts(seed))
            self.everything(program, unseen(program))
            self.everything(program, [])


class ByTurns(unittest.TestCase):
    def test_each_answer_is_as_if_it_were_the_first(self):
        for seed in range(12):
            chance = random.Random(seed)
            made = [judged_parts(random.Random(seed * 100 + number)) for number in range(3)]
            kept = [Program(parts) for parts in made]
            mates = [mate_of(parts, chance, 0.2) for parts in made]
            kept_mates = [Program(mate) for mate in mates]
            for _ in range(40):
                number = chance.randrange(3)
                promises = some_promises(chance, made[number][-1][1])
                asked = chance.choice(QUESTIONS)
                self.assertEqual(
                    asked(kept[number], kept_mates[number], promises), asked(Program(made[number]), Program(mates[number]), promises),
                )


def table_of(one, other, promises):
    try:
        return paper(one, other, promises)
    except Parted as parted:
        return told_by(parted.parting)


QUESTIONS = (
    alike,
    table_of,
    lambda one, other, promises: told_by(parting(one, other, promises)),
    lambda one, other, promises: good_meetings(one, other),
    lambda one, other, promises: least_promises(one, other),
    lambda one, other, promises: [told_by(run) for run in breaks(one, other, promises)],
    lambda one, other, promises: is_free(one, writes_of(one.parts())[:2], promises),
    lambda one, other, promises: (bars(one, promises), goes_along(other, promises)),
    lambda one, other, promises: len(one.writes()) > 7 or greatest_lots(one, promises),
    lambda one, other, promises: len(other.writes()) > 7 or spared(other, promises),
    lambda one, other, promises: (unseen(one, promises), unseen(other, promises)),
    lambda one, other, promises: [seen_by(seen(one, place, promises)) for place in one.writes()],
    lambda one, other, promises: is_paper(one, other, table_of(one, one, promises), promises),
)


if __name__ == "__main__":
    unittest.main()
