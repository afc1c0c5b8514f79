"""[38] to [44]: papers, when they are right, and what is told of any object."""

import itertools
import random
import unittest

from idlewrites.choosing import is_free, spared
from idlewrites.errors import BadPromise, IdleError, Parted
from idlewrites.judging import Parting, alike, parting
from idlewrites.lots import Lot
from idlewrites.papers import is_paper, paper
from idlewrites.programs import Program
from idlewrites.seeing import unseen
from tests.mates import judged_parts, mate_of, respelled, some_pairs, some_promises
from tests.samples import EVERY_DEED, OBJECTS, as_lists, mixed, spoiled
from tests.tables import Teller, Wrong, has_form, slow_paper, slow_right, tuples
from tests.tellings import changed, writes_of

ON, LEAVE, STOP = ("on",), ("leave",), ("stop",)
ALWAYS, NEVER = ("always", "a", "b"), ("never", "a", "b")
V0 = (("v", 0), ("v", 0))
V1 = (("v", 1), ("v", 1))
N0 = (("n", 0), ("n", 0))
N1 = (("n", 1), ("n", 1))


def main_of(body, handed=("a",), own=()):
    return Program([("main", handed, own, body)])


def told_by(run):
    return run.meeting.blocks, run.numbers, run.answers, [(talk.told, talk.way, talk.left, talk.used) for talk in run.talks]


def copied(table):
    return {key: list(ends) for key, ends in table.items()}


class Bold(Teller):
    """Does not mind what is told."""

    def deed(self, place, deed, here, known):
        return [(ON, here)] if deed[0] == "tell" else super().deed(place, deed, here, known)


def shut(one, other, table, teller=Teller):
    """The table with all keys and ends that are missing; Wrong if unlike contents are told on the way."""
    found = copied(table)
    teller = teller(one, other)
    teller.under = lambda key: list(found.setdefault(key, []))
    grown = True
    while grown:
        before = sum(1 + len(ends) for ends in found.values())
        for key in list(found):
            come = set(teller.comes_to(key)) | set(found[key])
            found[key] = sorted(come)
        grown = before < sum(1 + len(ends) for ends in found.values())
    return found


def first_keys(one, other, promises=()):
    return Teller(one, other).first(promises)


def with_tells(parts, chance):
    """The parts, in which behind some writes the content is told that is written."""
    return changed(parts, lambda place, deed: [deed, ("tell", deed[1])] if chance.random() < 0.3 else [deed])


def some_alike(count, seed, **sizes):
    """Tuples (one, other, promises, paper): programs that are alike, and mostly not equal."""
    number = seed * 1000003
    while count:
        number += 1
        chance = random.Random(number)
        parts = judged_parts(chance, **sizes)
        if number % 3 == 0:
            parts = respelled(parts)
        if number % 4 == 0:
            parts = changed(parts, lambda place, deed: [deed] * chance.choice((1, 2)))
        elif number % 4 < 3:
            parts = with_tells(parts, chance)
        promises = some_promises(chance, parts[-1][1])
        one = Program(parts)
        writes = one.writes()
        lots = [unseen(one, promises), *([place] for place in chance.sample(writes, min(len(writes), 3)))]
        others = [one - lot for lot in lots if lot and is_free(one, lot, promises)]
        if 0 < len(writes) < 5:
            others.append(spared(one, promises))
        if not others:
            continue
        other = chance.choice(others)
        if number % 2:
            one, other = other, one
        yield one, other, promises, paper(one, other, promises)
        count -= 1


class Told(unittest.TestCase):
    def check(self, one, other, wanted, promises=()):
        table = paper(one, other, promises)
        self.assertEqual(table, wanted)
        self.assertEqual(table, slow_paper(one.parts(), other.parts(), promises))
        self.assertIs(is_paper(one, other, table, promises), True)

    def test_two_puts(self):
        one = main_of([("put", "a", 1), ("put", "a", 1)])
        key, end = ((0,), ((0,), (0,), (V0,))), (ON, ((0,), (0,), (N1,)))
        for lot in ([], [(0, 0)], [(0, 1)]):
            self.check(one, one - lot, {key: [end]})
            self.check(one - lot, one, {key: [end]})

    def test_no_names_and_no_deeds(self):
        self.check(main_of([], ()), main_of([], ()), {((0,), ((), (), ())): [(ON, ((), (), ()))]})
        self.check(main_of([("leave",)], ()), main_of([("leave",)], ()), {((0,), ((), (), ())): [(LEAVE, ((), (), ()))]})
        out = ("fault", "oops")
        self.check(main_of([("fail", "oops")], ()), main_of([("fail", "oops")], ()), {((0,), ((), (), ())): [(out, ((), (), ()))]})

    def test_a_key_for_each_meeting(self):
        one = main_of([("put", "a", 1), ("put", "b", 2), ("put", "a", 3)], ("a", "b"), ("t",))
        met = ((0,), ((0, 0), (0, 0, 1), (V0, N0)))
        apart = ((0,), ((0, 1), (0, 1, 2), (V0, V1, N0)))
        three, two = (("n", 3), ("n", 3)), (("n", 2), ("n", 2))
        met_end, apart_end = (ON, ((0, 0), (0, 0, 1), (three, N0))), (ON, ((0, 1), (0, 1, 2), (three, two, N0)))
        self.check(one, one - [(0, 0)], {met: [met_end], apart: [apart_end]})
        self.check(one, one - [(0, 0)], {met: [met_end]}, [ALWAYS])
        self.check(one, one - [(0, 0)], {apart: [apart_end]}, [NEVER])
        self.check(one, one - [(0, 0)], {}, [NEVER, ALWAYS])
        # With the second put struck as well they are alike under the one promise alone.
        self.check(one, one - [(0, 0), (0, 1)], {met: [met_end]}, (ALWAYS,))

    def test_values_are_numbered_onward(self):
        key = (0,), ((0,), (0, 1), (V0, N0))
        one = main_of([("ask", "t"), ("ask", "a"), ("ask", "a")], own=("t",))
        self.check(one, one - [(0, 0)], {key: [(ON, ((0,), (0, 1), (V1, (("v", 2), ("n", 0)))))]})
        one = main_of([("copy", "t", "a"), ("ask", "a")], own=("t",))
        self.check(one, one, {key: [(ON, ((0,), (0, 1), (V1, V0)))]})
        # The first value of the key keeps its number though it comes in the end no more.
        one = main_of([("ask", "t"), ("put", "a", 0)], own=("t",))
        self.check(one, one - [(0, 0)], {key: [(ON, ((0,), (0, 1), (N0, (("v", 1), ("n", 0)))))]})
        # That of the one program comes ahead of that of the other.
        one, other = main_of([("ask", "t"), ("ask", "t")], own=("t",)), main_of([("ask", "t"), ("skip",)], own=("t",))
        self.check(one, other, {key: [(ON, ((0,), (0, 1), (V0, (("v", 1), ("v", 2)))))]})

    def test_lists_and_empty_lists(self):
        one = main_of([("if", [("ask", "a")], [])])
        start, after = ((0,), (0,), (V0,)), ((0,), (0,), (V1,))
        self.check(one, one, {
            ((0,), start): [(ON, start), (ON, after)],
            ((0, 0, 0), start): [(ON, after)],
            ((0, 0, 1), start): [(ON, start)],
        })
        one = main_of([("loop", []), ("try", [], "x", []), ("last", [], [])])
        self.check(one, one, {((0,), start): [(ON, start)], **{((0, *path), start): [(ON, start)] for path in ((0, 0), (1, 0), (2, 0), (2, 1))}})

    def test_a_list_begins_at_its_plain_standing(self):
        # Behind the ask the value has the number 1, in the list it has the number 0.
        one = main_of([("ask", "a"), ("if", [("rest",)], [("ask", "a"), ("ask", "a")])])
        start, after = ((0,), (0,), (V0,)), ((0,), (0,), (V1,))
        self.check(one, one - [(0, 1, 1, 0)], {
            ((0,), start): [(ON, after)],
            ((0, 1, 0), start): [(ON, start)],
            ((0, 1, 1), start): [(ON, after)],
        })

    def test_a_loop_goes_on_until_nothing_new_comes(self):
        one = main_of([("loop", [("copy", "u", "t"), ("copy", "t", "a"), ("put", "a", 1)])], ("a",), ("t", "u"))
        rows = [(V0, N0, N0), (N1, V0, N0), (N1, N1, V0), (N1, N1, N1)]
        standings = [((0,), (0, 1, 2), row) for row in rows]
        self.check(one, one, {
            ((0,), standings[0]): sorted((ON, standing) for standing in standings),
            **{((0, 0, 0), standings[at]): [(ON, standings[min(at + 1, 3)])] for at in range(4)},
        })

    def test_ways_out(self):
        body = [("loop", [("if", [("stop",)], [("fail", "x")]), ("put", "a", 1)]), ("try", [("fail", "y")], "x", [("put", "a", 2)])]
        one = main_of([("last", [("try", body, "x", [("leave",)])], [("rest",)])])
        start = ((0,), (0,), (V0,))
        x, y = ("fault", "x"), ("fault", "y")
        self.check(one, one - [(0, 0, 0, 0, 0, 0, 0, 1), (0, 0, 0, 0, 0, 1, 1, 0)], {
            ((0,), start): [(y, start), (LEAVE, start)],
            ((0, 0, 0), start): [(y, start), (LEAVE, start)],
            ((0, 0, 1), start): [(ON, start)],
            ((0, 0, 0, 0, 0), start): [(x, start), (y, start)],
            ((0, 0, 0, 0, 0, 0, 0), start): [(x, start), (STOP, start)],
            ((0, 0, 0, 0, 0, 0, 0, 0, 0), start): [(STOP, start)],
            ((0, 0, 0, 0, 0, 0, 0, 0, 1), start): [(x, start)],
            ((0, 0, 0, 0, 0, 1, 0), start): [(y, start)],
            ((0, 0, 0, 0, 1), start): [(LEAVE, start)],
        })

    def test_names_that_are_handed_over_twice(self):
        parts = [
            ("in", ("p", "q"), ("s",), [("put", "p", 1), ("ask", "q"), ("copy", "s", "q"), ("leave",)]),
            ("main", ("a", "b"), (), [("call", "in", ("a", "a")), ("call", "in", ("b", "a"))]),
        ]
        one = Program(parts)
        other = one - [(0, 0), (0, 2)]
        with self.assertRaises(Parted) as context:
            paper(one, other)
        self.assertEqual(context.exception.parting.meeting.code, (0, 1))
        struck = (("v", 1), ("n", 0))
        self.check(one, other, {
            ((1,), ((0, 0), (0, 0), (V0,))): [(ON, ((0, 0), (0, 0), (V1,)))],
            ((0,), ((0, 0), (0, 0, 1), (V0, N0))): [(LEAVE, ((0, 0), (0, 0, 1), (V1, struck)))],
        }, [ALWAYS])
        v2 = (("v", 2), ("v", 2))
        self.check(one, one, {
            ((1,), ((0, 0), (0, 0), (V0,))): [(ON, ((0, 0), (0, 0), (V1,)))],
            ((1,), ((0, 1), (0, 1), (V0, V1))): [(ON, ((0, 1), (0, 1), (v2, N1)))],
            ((0,), ((0, 0), (0, 0, 1), (V0, N0))): [(LEAVE, ((0, 0), (0, 0, 1), (V1, V1)))],
            ((0,), ((0, 1), (0, 1, 2), (V0, V1, N0))): [(LEAVE, ((0, 1), (0, 1, 2), (N1, v2, v2)))],
        })

    def test_cells_that_no_name_leads_to_are_forgotten(self):
        one = main_of([("put", "t", 1), ("fresh", "t"), ("point", "a", "t"), ("put", "a", 2), ("point", "t", "u"), ("put", "u", 1)], ("a",), ("t", "u"))
        other = one - [(0, 0)]
        two = (("n", 2), ("n", 2))
        self.check(one, other, {
            ((0,), ((0,), (0, 1, 2), (V0, N0, N0))): [(ON, ((0,), (1, 2, 2), (V0, two, N1)))],
        })
        one = main_of([("point", "t", "a"), ("point", "a", "b"), ("fresh", "b"), ("tell", "t")], ("a", "b"), ("t",))
        self.check(one, one, {
            ((0,), ((0, 1), (0, 1, 2), (V0, V1, N0))): [(ON, ((0, 1), (1, 2, 0), (V0, V1, N0)))],
            ((0,), ((0, 0), (0, 0, 1), (V0, N0))): [(ON, ((0, 0), (0, 1, 0), (V0, N0)))],
        })

    def test_cells_are_told_apart_by_a_part(self):
        # What is new in a part that is called is forgotten behind the call.
        parts = [
            ("in", ("p",), ("s",), [("fresh", "p"), ("put", "p", 5), ("point", "s", "p")]),
            ("main", ("a",), ("t",), [("call", "in", ("t",)), ("call", "in", ("a",))]),
        ]
        one = Program(parts)
        five, unlike = (("n", 5), ("n", 5)), (("n", 5), ("n", 0))
        self.check(one, one, {
            ((1,), ((0,), (0, 1), (V0, N0))): [(ON, ((0,), (0, 1), (V0, N0)))],
            ((0,), ((0,), (0, 1), (N0, N0))): [(ON, ((0,), (1, 1), (N0, five)))],
            ((0,), ((0,), (0, 1), (V0, N0))): [(ON, ((0,), (1, 1), (V0, five)))],
        })
        self.check(one, one - [(0, 1)], {
            ((1,), ((0,), (0, 1), (V0, N0))): [(ON, ((0,), (0, 1), (V0, N0)))],
            ((0,), ((0,), (0, 1), (N0, N0))): [(ON, ((0,), (1, 1), (N0, unlike)))],
            ((0,), ((0,), (0, 1), (V0, N0))): [(ON, ((0,), (1, 1), (V0, unlike)))],
        })

    def test_alike_though_they_are_unlike(self):
        # The two programs keep unlike contents all the way, and tell none of them.
        one = main_of([("copy", "t", "a"), ("put", "a", 1), ("loop", [("copy", "t", "t")]), ("copy", "a", "t")], ("a",), ("t",))
        other = one - one.writes()
        standing = ((0,), (0, 1), ((("n", 1), ("v", 0)), (("v", 0), ("n", 0))))
        self.check(one, other, {
            ((0,), ((0,), (0, 1), (V0, N0))): [(ON, ((0,), (0, 1), (V0, (("v", 0), ("n", 0)))))],
            ((0, 2, 0), standing): [(ON, standing)],
        })


class AgainstTheSlowTelling(unittest.TestCase):
    def check(self, one, other, promises, table):
        self.assertEqual(table, slow_paper(one.parts(), other.parts(), promises))
        self.assertIs(type(table), dict)
        for key, ends in table.items():
            self.assertEqual(key, tuples(key))
            self.assertIs(type(ends), list)
            self.assertEqual(ends, sorted(set(ends)))
            self.assertTrue(all(type(end) is tuple for end in ends))
        self.assertTrue(has_form(one.parts(), table))
        again = paper(one, other, promises)
        again.popitem() if again else None
        for ends in again.values():
            ends.append("spoiled")
        self.assertEqual(paper(one, other, promises), table)
        self.assertIs(is_paper(one, other, table, promises), True)

    def test_programs_that_are_alike(self):
        keys = words = 0
        for one, other, promises, table in some_alike(350, 1):
            self.check(one, other, promises, table)
            keys += len(table)
            words += len({end[0] for ends in table.values() for end in ends})
        self.assertGreater(keys, 3000)
        self.assertGreater(words, 400)

    def test_a_program_and_itself(self):
        for seed in range(120):
            chance = random.Random(seed)
            parts = judged_parts(chance, room=20)
            one = Program(EVERY_DEED if seed == 0 else parts)
            promises = some_promises(chance, one.handed())
            self.check(one, Program(one.parts()), promises, paper(one, one, promises))

    def test_a_program_and_others_of_its_bones(self):
        alike_ones = parted = 0
        for one, other, promises in some_pairs(500, 43):
            first, second = Program(one), Program(other)
            run = parting(first, second, promises)
            if run is None:
                self.check(first, second, promises, paper(first, second, promises))
                alike_ones += 1
                continue
            parted += 1
            with self.assertRaises(Parted) as context:
                paper(first, second, promises)
            self.assertIsInstance(context.exception, IdleError)
            self.assertIsInstance(context.exception.parting, Parting)
            self.assertEqual(told_by(context.exception.parting), told_by(run))
            with self.assertRaises(Wrong):
                slow_paper(one, other, promises)
        self.assertGreater(min(alike_ones, parted), 80)

    def test_the_errors_in_their_order(self):
        one = main_of([("put", "a", 1)], ("a", "b"))
        with self.assertRaises(BadPromise) as context:
            paper(one, one - [(0, 0)], [ALWAYS, "wrong"])
        self.assertEqual(context.exception.index, 1)
        with self.assertRaises(Parted):
            paper(one, one - [(0, 0)], [ALWAYS])
        self.assertEqual(paper(one, one - [(0, 0)], [ALWAYS, NEVER]), {})


class Right(unittest.TestCase):
    """What is no more than the told paper in other words, and what is less."""

    def test_lists_for_tuples_and_ends_in_any_order(self):
        for one, other, promises, table in some_alike(60, 2):
            chance = random.Random(str(table))
            passed = {key: as_lists(ends) for key, ends in table.items()}
            self.assertIs(is_paper(one, other, passed, promises), True)
            self.assertEqual(passed, {key: as_lists(ends) for key, ends in table.items()})
            passed = {key: tuple(ends[::-1]) for key, ends in reversed(table.items())}
            self.assertIs(is_paper(one, other, passed, promises), True)
            passed = {key: mixed(chance.sample(ends, len(ends)), chance) for key, ends in table.items()}
            self.assertIs(is_paper(one, other, passed, promises), True)
            self.assertIs(is_paper(promises=as_lists(promises), thing=passed, other=other, one=one), True)
            # The paper of two programs is no more than what both do, but for the sides of its contents.
            turned = {
                (place, self.turned(standing)): [(way, self.turned(end)) for way, end in ends]
                for (place, standing), ends in table.items()
            }
            self.assertEqual(slow_right(other.parts(), one.parts(), turned, promises), is_paper(other, one, turned, promises))

    def turned(self, standing):
        return (*standing[:2], tuple(pair[::-1] for pair in standing[2]))

    def test_without_a_key_or_an_end(self):
        cut = 0
        for one, other, promises, table in some_alike(60, 3):
            for key in table:
                less = copied(table)
                del less[key]
                self.assertIs(is_paper(one, other, less, promises), False)
                for end in table[key][:4]:
                    less = copied(table)
                    less[key].remove(end)
                    self.assertIs(is_paper(one, other, less, promises), False)
                    cut += 1
        self.assertGreater(cut, 500)

    def test_of_other_programs(self):
        told = [0, 0]
        for one, other, promises, table in some_alike(120, 4, most_parts=2):
            chance = random.Random(str(table))
            writes = one.writes()
            for third in (one - chance.sample(writes, len(writes) // 2), other - other.writes(), one, other):
                right = is_paper(one, third, table, promises)
                self.assertIs(right, slow_right(one.parts(), third.parts(), table, promises))
                self.assertFalse(right and not alike(one, third, promises))
                told[right] += 1
            # Under fewer promises there are more keys that are needed.
            self.assertIs(is_paper(one, other, table), slow_right(one.parts(), other.parts(), table))
        self.assertGreater(min(told), 100)

    def test_under_other_promises(self):
        one = main_of([("put", "a", 1), ("put", "b", 2)], ("a", "b"))
        other = one - [(0, 0)]
        table = paper(one, other, [ALWAYS])
        self.assertIs(is_paper(one, other, table, [ALWAYS]), True)
        self.assertIs(is_paper(one, other, table, [ALWAYS, ALWAYS, NEVER]), True)
        for promises in ((), [NEVER]):
            self.assertIs(is_paper(one, other, table, promises), False)
        self.assertIs(is_paper(one, other, {}, [ALWAYS, NEVER]), True)
        self.assertIs(is_paper(one, other, {}), False)
        self.assertIs(is_paper(one, one, paper(one, one), [ALWAYS]), True)
        # At a meeting that breaks a promise the beginning of main is a key as each other one.
        more = shut(one.parts(), other.parts(), {key: [] for key in first_keys(one.parts(), other.parts())})
        self.assertEqual(len(more), 2)
        self.assertIs(is_paper(one, other, more, [ALWAYS]), True)
        self.assertIs(is_paper(one, other, more, [ALWAYS, NEVER]), True)
        self.assertIs(is_paper(one, other, more, [NEVER]), False)
        self.assertIs(is_paper(one, other, more), False)


def some_standing(chance, part, many, outer=None):
    """A standing of a part that has the form, with values from many on numbered as they come."""
    _, handed, own, _ = part
    cells = 0
    if outer is None:
        outer = []
        for _ in handed:
            outer.append(chance.randint(0, cells))
            cells = max(cells, outer[-1] + 1)
    cells = len(set(outer))
    names = []
    for _ in handed + own:
        names.append(chance.randint(0, cells))
        cells = max(cells, names[-1] + 1)
    contents, values = [], many
    for _ in range(cells):
        first = some_content(chance, values)
        values = max(values, first[1] + 1) if first[0] == "v" else values
        second = first if chance.random() < 0.7 else some_content(chance, values)
        values = max(values, second[1] + 1) if second[0] == "v" else values
        contents.append((first, second))
    return tuple(outer), tuple(names), tuple(contents)


def some_content(chance, values):
    return ("v", chance.randint(0, values)) if chance.random() < 0.6 else ("n", chance.choice((0, 1, -7, 10 ** 30)))


def some_key(chance, one):
    place = chance.choice(list(Teller(one, one).lists))
    return place, some_standing(chance, one[place[0]], 0)


def some_end(chance, one, key):
    place, (outer, _, contents) = key
    many = len({content for pair in contents for content in pair if content[0] == "v"})
    way = chance.choice((ON, ON, LEAVE, STOP, ("fault", chance.choice(("oops", "a", "other")))))
    return way, some_standing(chance, one[place[0]], many, outer)


class More(unittest.TestCase):
    """Keys and ends that no run needs."""

    def test_keys_that_are_not_needed(self):
        told = [0, 0]
        for one, other, promises, table in some_alike(120, 5, room=10):
            chance = random.Random(str(table))
            parts = one.parts(), other.parts()
            for _ in range(3):
                key = some_key(chance, one.parts())
                if key in table:
                    continue
                bare = {**table, key: []}
                self.assertTrue(has_form(one.parts(), bare))
                self.assertIs(is_paper(one, other, bare, promises), slow_right(*parts, bare, promises))
                more = shut(*parts, bare, Bold)
                right = slow_right(*parts, more, promises)
                self.assertIs(is_paper(one, other, more, promises), right)
                told[right] += 1
        self.assertGreater(min(told), 10)

    def test_ends_that_are_not_needed(self):
        told = [0, 0]
        for one, other, promises, table in some_alike(150, 6, room=8):
            if not table:
                continue
            chance = random.Random(str(table))
            parts = one.parts(), other.parts()
            for _ in range(3):
                key = chance.choice(list(table))
                more = copied(table)
                more[key].append(some_end(chance, one.parts(), key))
                self.assertTrue(has_form(one.parts(), more))
                self.assertIs(is_paper(one, other, more, promises), slow_right(*parts, more, promises))
                more = shut(*parts, more, Bold)
                right = slow_right(*parts, more, promises)
                self.assertIs(is_paper(one, other, more, promises), right)
                told[right] += 1
        self.assertGreater(min(told), 60)

    def test_two_papers_in_one(self):
        for seed in range(60):
            chance = random.Random(seed)
            one = Program(judged_parts(chance, room=10))
            tables = [paper(one, other) for other in (one, one - unseen(one))]
            both = {**tables[0], **tables[1]}
            for key in both:
                both[key] = [*tables[0].get(key, []), *tables[1].get(key, [])]
            for other in (one, one - unseen(one)):
                self.assertIs(is_paper(one, other, both), slow_right(one.parts(), other.parts(), both))
            both = {**paper(one, one), **paper(one, one, some_promises(chance, one.handed()))}
            self.assertIs(is_paper(one, one, both), True)

    def test_any_integer_and_any_word(self):
        one = main_of([("if", [("put", "a", 1)], []), ("put", "a", 2)])
        table = paper(one, one - [(0, 0, 0, 0)])
        start, list_key = ((0,), (0,), (V0,)), ((0, 0, 0), ((0,), (0,), (V0,)))
        self.assertIn(list_key, table)
        for number in (0, -1, 77, 10 ** 39, -10 ** 39):
            for contents in ((("n", number), ("n", 4)), (("v", 0), ("n", number)), (("v", 1), ("n", number))):
                more = copied(table)
                more[list_key].append((ON, ((0,), (0,), (contents,))))
                self.assertIs(is_paper(one, one - [(0, 0, 0, 0)], more), True)
                more[((0,), ((0,), (0,), (contents,)))] = []
                self.assertIs(is_paper(one, one - [(0, 0, 0, 0)], more), False)
        for word in ("z", "eightabc", "on", "fault", "v"):
            way = ("fault", word)
            more = copied(table)
            more[list_key].append((way, start))
            self.assertIs(is_paper(one, one - [(0, 0, 0, 0)], more), False)
            more[((0,), start)].append((way, start))
            self.assertIs(is_paper(one, one - [(0, 0, 0, 0)], more), True)
            # At the ends of main both programs leave the same, whether a run comes to them or not.
            more[((0,), start)].append((way, ((0,), (0,), (((("v", 0), ("n", 1))),))))
            self.assertIs(is_paper(one, one - [(0, 0, 0, 0)], more), False)
        for word in ("", "A", "a1", "a b", "longerone", "\n"):
            more = copied(table)
            for key in list(more):
                more[key].append((("fault", word), start))
            self.assertIs(is_paper(one, one - [(0, 0, 0, 0)], more), False)

    def test_a_call_that_goes_out_by_stop(self):
        parts = [
            ("in", ("p",), (), [("rest",)]),
            ("main", ("a",), (), [("loop", [("call", "in", ("a",)), ("put", "a", 1)]), ("put", "a", 2), ("call", "in", ("a",))]),
        ]
        one = Program(parts)
        other = one - [(1, 0, 0, 1)]
        table = paper(one, other)
        start, two, seven = ((0,), (0,), (V0,)), ((0,), (0,), ((("n", 2), ("n", 2)),)), ((0,), (0,), ((("n", 7), ("n", 7)),))
        key = ((0,), start)
        self.assertEqual(table[key], [(ON, start)])
        more = copied(table)
        more[key].append((STOP, seven))
        # In the loop the call goes out of the body by stop, so that the loop goes on.
        self.assertIs(is_paper(one, other, more), False)
        more[((1, 0, 0), start)].append((STOP, seven))
        self.assertIs(is_paper(one, other, more), True)
        # Behind the loop it goes out of main, where the way stop has the form of an end as well.
        more[((0,), two)].append((STOP, seven))
        self.assertIs(is_paper(one, other, more), False)
        more[((1,), start)].append((STOP, seven))
        self.assertIs(is_paper(one, other, more), True)
        more[((1,), start)][-1] = (ON, seven)
        self.assertIs(is_paper(one, other, more), False)
        # By leave it would go on.
        more = copied(table)
        more[((0,), two)].append((LEAVE, seven))
        self.assertIs(is_paper(one, other, more), False)
        more[((1,), start)].append((ON, seven))
        self.assertIs(is_paper(one, other, more), True)


class Parts(unittest.TestCase):
    """[44]: of programs that part nothing is a right paper."""

    def test_shut_tables(self):
        told = left = 0
        for seed in range(400):
            chance = random.Random(seed)
            one = judged_parts(chance)
            one = with_tells(one, chance) if seed % 2 else one
            other = mate_of(one, chance, 0.3)
            promises = some_promises(chance, one[-1][1])
            first, second = Program(one), Program(other)
            if alike(first, second, promises):
                continue
            table = shut(one, other, {key: [] for key in first_keys(one, other, promises)}, Bold)
            self.assertTrue(has_form(one, table))
            self.assertIs(is_paper(first, second, table, promises), False)
            self.assertIs(slow_right(one, other, table, promises), False)
            try:
                shut(one, other, table)
                left += 1
            except Wrong:
                told += 1
        self.assertGreater(min(told, left), 20)

    def test_by_what_is_told_or_left(self):
        start = ((0,), (0,), (V0,))
        one = main_of([("put", "a", 1)])
        unlike = ((0,), (0,), ((("n", 1), ("v", 0)),))
        self.assertIs(is_paper(one, one - [(0, 0)], {((0,), start): [(ON, unlike)]}), False)
        one = main_of([("put", "a", 1), ("put", "a", 1)])
        self.assertIs(is_paper(one, one - one.writes(), {((0,), start): [(ON, unlike)]}), False)
        one = main_of([("put", "t", 1), ("tell", "t")], own=("t",))
        start, end = ((0,), (0, 1), (V0, N0)), ((0,), (0, 1), (V0, (("n", 1), ("n", 0))))
        self.assertIs(is_paper(one, one - [(0, 0)], {((0,), start): [(ON, end)]}), False)
        one = main_of([("put", "t", 1)], own=("t",))
        self.assertIs(is_paper(one, one - [(0, 0)], {((0,), start): [(ON, end)]}), True)
        # Equal contents may be told, and it is no matter what is left in own cells.
        one = main_of([("put", "t", 0), ("tell", "t")], own=("t",))
        self.assertIs(is_paper(one, one - [(0, 0)], {((0,), start): [(ON, start)]}), True)

    def test_a_list_that_no_run_comes_to(self):
        # Nothing is done behind the fault, so a key of the list is not needed; but if it is there, it counts.
        one = main_of([("fail", "x"), ("if", [("put", "t", 1), ("tell", "t")], [])], own=("t",))
        other = one - one.writes()
        start = ((0,), (0, 1), (V0, N0))
        table = paper(one, other)
        self.assertEqual(table, {((0,), start): [(("fault", "x"), start)]})
        end = ((0,), (0, 1), (V0, (("n", 1), ("n", 0))))
        self.assertIs(is_paper(one, other, {**table, ((0, 1, 0), start): [(ON, end)]}), False)
        self.assertIs(is_paper(one, one, {**table, ((0, 1, 0), start): [(ON, ((0,), (0, 1), (V0, N1)))]}), True)
        self.assertIs(is_paper(one, other, {**table, ((0, 1, 1), start): [(ON, start)]}), True)
        # The end under such a key may leave unlike contents.
        unlike = ((0,), (0, 1), ((("v", 0), ("n", 1)), N0))
        self.assertIs(is_paper(one, other, {**table, ((0, 1, 1), unlike): [(ON, unlike)]}), True)
        self.assertIs(is_paper(one, other, {**table, ((0,), unlike): [(("fault", "x"), unlike)]}), True)


class Wrongs(unittest.TestCase):
    """Objects of all kinds that are no papers."""

    ONE = Program([
        ("in", ("p", "q"), (), [("copy", "p", "q")]),
        ("main", ("a", "b"), ("t",), [("if", [("ask", "a"), ("call", "in", ("a", "t"))], [("fail", "oops")]), ("put", "t", 1)]),
    ])
    OTHER = ONE - [(1, 1)]

    def false(self, thing):
        for promises in ((), [NEVER]):
            self.assertIs(is_paper(self.ONE, self.OTHER, thing, promises), False)

    def test_objects(self):
        for thing in (*OBJECTS, Lot([]), self.ONE, [()], [((0,), ()), ()], {(): []}, {((0,), ()): []}, {None: None}):
            with self.subTest(thing=thing):
                self.false(thing)
        table = paper(self.ONE, self.OTHER)
        self.false(list(table.items()))
        self.false(as_lists(tuple(table.items())))
        for thing in OBJECTS:
            for key in table:
                self.false({**table, key: thing})
                self.false({**table, key: [*table[key], thing]})
                self.false({**table, key: [*table[key], (ON, thing)]})
                self.false({**table, key: [*table[key], (thing, table[key][0][1])]})
                break
            if has_hash(thing):
                self.false({**table, thing: []})
                self.false({**table, (thing, next(iter(table))[1]): []})
                self.false({**table, ((1,), thing): []})

    def test_each_item_replaced(self):
        """Each item of the paper, at all depths, by an object of each kind."""
        table = paper(self.ONE, self.OTHER)
        parts = self.ONE.parts(), self.OTHER.parts()
        seen = [0, 0]
        items = tuple((key, tuple(ends)) for key, ends in table.items())
        for path in paths(items):
            if not path:
                continue
            for thing in (*OBJECTS, 2, 3, ("v", 0), ("n", 1), ON, ("v", True), ("n", False), ("v", -1)):
                spoilt = replaced(items, path, thing)
                if not all(isinstance(pair, tuple) and len(pair) == 2 and has_hash(pair[0]) for pair in spoilt):
                    continue
                made = dict(spoilt)
                right = has_form(parts[0], made) and slow_right(*parts, frozen(made))
                self.assertIs(is_paper(self.ONE, self.OTHER, made), right)
                seen[right] += 1
        self.assertGreater(seen[0], 5000)

    def test_random_changes(self):
        told = [0, 0]
        for one, other, promises, table in some_alike(150, 7, room=10):
            chance = random.Random(str(table))
            parts = one.parts(), other.parts()
            items = tuple((key, tuple(ends)) for key, ends in table.items())
            every = [path for path in paths(items) if path]
            for _ in range(30 if every else 0):
                path = chance.choice(every)
                old = at_path(items, path)
                if isinstance(old, int):
                    new = chance.choice((old + 1, old - 1, 0, 1, 2, bool(old)))
                elif isinstance(old, str):
                    new = chance.choice(("n", "v", "on", "stop", "leave", "fault", "oops", "other"))
                else:
                    new = chance.choice((old[::-1], old[:-1], old + old[-1:], old[1:], ()))
                spoilt = replaced(items, path, new)
                if not all(isinstance(pair, tuple) and len(pair) == 2 for pair in spoilt):
                    continue
                made = dict(spoilt)
                right = has_form(parts[0], made) and slow_right(*parts, frozen(made), promises)
                self.assertIs(is_paper(one, other, made, promises), right)
                told[right] += 1
        self.assertGreater(told[0], 1000)
        self.assertGreater(told[1], 100)

    def test_truths_for_integers(self):
        one = main_of([("put", "t", 1), ("put", "a", 0)], ("a",), ("t",))
        start = ((0,), ((0,), (0, 1), (V0, N0)))
        end = (ON, ((0,), (0, 1), (N0, N1)))
        self.assertEqual(paper(one, one), {start: [end]})
        keys = [
            ((False,), start[1]), ((0,), ((False,), (0, 1), (V0, N0))), ((0,), ((0,), (False, 1), (V0, N0))),
            ((0,), ((0,), (0, True), (V0, N0))), ((0,), ((0,), (0, 1), ((("v", False), ("v", 0)), N0))),
            ((0,), ((0,), (0, 1), (V0, (("n", 0), ("n", False))))),
        ]
        for key in keys:
            self.assertEqual({key: [end]}, {start: [end]})
            self.assertIs(is_paper(one, one, {key: [end]}), False)
        ends = [
            (ON, ((False,), (0, 1), (N0, N1))), (ON, ((0,), (False, 1), (N0, N1))), (ON, ((0,), (0, True), (N0, N1))),
            (ON, ((0,), (0, 1), ((("n", False), ("n", 0)), N1))), (ON, ((0,), (0, 1), (N0, (("n", 1), ("n", True))))),
        ]
        for wrong in ends:
            self.assertEqual(wrong, end)
            for listed in ([wrong], [end, wrong], [wrong, end], [as_lists(wrong)]):
                self.assertIs(is_paper(one, one, {start: listed}), False)

    def test_numbers_that_are_not_in_their_order(self):
        one = main_of([("skip",)], ("a", "b"), ("t",))
        table = paper(one, one)
        met, apart = ((0, 0), (0, 0, 1), (V0, N0)), ((0, 1), (0, 1, 2), (V0, V1, N0))
        self.assertEqual(list(table), [((0,), met), ((0,), apart)])
        standings = [
            ((1, 0), (1, 0, 2), (V0, V1, N0)), ((0, 1), (0, 1, 3), (V0, V1, N0)), ((0, 1), (0, 1, 2), (V1, V0, N0)),
            ((0, 1), (0, 1, 2), (V0, (("v", 2), ("v", 2)), N0)), ((0, 2), (0, 2, 1), (V0, N0, V1)), ((1, 1), (1, 1, 0), (N0, V0)),
            ((0, 1), (0, 1, 2), (V0, V1)), ((0, 1), (0, 1, 2), (V0, V1, N0, N0)), ((0, 1), (0, 1), (V0, V1)), ((0,), (0, 1, 2), (V0, V1, N0)),
            ((0, 1), (0, 1, 1), (V0, V1, N0)), ((0, 1), (2, 1, 3), (V0, V1, N0)), ((-1, 0), (-1, 0, 1), (V0, V1, N0)), ((0, 1), (0, 1, 2, 3), (V0, V1, N0, N0)),
            ((0, 1), (0, 1, 2), (V0 + V1[:1], V1[:1], N0)), ((0, 1), (0, 1, 2), (V0[:1], V0 + V1, N0)), ((0, 1), (0, 1, 2), V0 + V1 + N0),
            ((0, 1), (0, 3, 2), (V0, V1, N0, N0)), ((0, 1), (0, 1, 2), ((("v", 1), ("v", 0)), N0, N0)), ((0, 1), (0, 1, 2), (N0, N0, V1)),
        ]
        for standing in standings:
            with self.subTest(standing=standing):
                self.assertFalse(has_form(one.parts(), {((0,), standing): [(ON, standing)]}))
                self.assertIs(is_paper(one, one, {**table, ((0,), standing): [(ON, standing)]}), False)
                self.assertIs(is_paper(one, one, {**table, ((0,), standing): []}), False)
                self.assertIs(is_paper(one, one, {**table, ((0,), apart): [(ON, standing)]}), False)
                more = {**table, ((0,), apart): [(ON, apart), (ON, standing)]}
                self.assertIs(is_paper(one, one, more), has_form(one.parts(), more) and slow_right(one.parts(), one.parts(), more))
        # In an end the values of the key may come in any order, other ones are numbered onward.
        for contents, right in (
            ((V1, V0, N0), True), ((V1, V1, V1), True), (((("v", 2), ("v", 2)), V0, (("v", 3), ("v", 2))), True),
            (((("v", 3), ("v", 3)), V0, N0), False), (((("v", 2), ("v", 2)), V0, (("v", 4), ("v", 2))), False),
        ):
            # Such an end counts only under a key that no run needs to have at its beginning.
            more = {**table, ((0,), ((0, 1), (0, 1, 1), (V0, V1))): [(ON, ((0, 1), (0, 1, 1), (V0, V1))), (ON, ((0, 1), (0, 1, 2), contents))]}
            self.assertIs(has_form(one.parts(), more), right)
            self.assertIs(is_paper(one, one, more), right)

    def test_outer_of_an_end_is_that_of_the_key(self):
        one = main_of([("skip",)], ("a", "b"))
        table = paper(one, one)
        met, apart = ((0, 0), (0, 0), (V0,)), ((0, 1), (0, 1), (V0, V1))
        self.assertEqual(list(table), [((0,), met), ((0,), apart)])
        self.assertIs(is_paper(one, one, {**table, ((0,), met): [(ON, met), (ON, ((0, 1), (0, 1), (V0, V0)))]}), False)
        self.assertIs(is_paper(one, one, {**table, ((0,), apart): [(ON, apart), (ON, met)]}), False)
        self.assertIs(is_paper(one, one, {**table, ((0,), apart): [(ON, apart), (ON, ((0, 1), (0, 0), (V0, V0)))]}), True)

    def test_places_of_lists(self):
        one = main_of([("if", [("rest",)], []), ("skip",)])
        table = paper(one, one)
        start = ((0,), (0,), (V0,))
        self.assertEqual(sorted(key[0] for key in table), [(0,), (0, 0, 0), (0, 0, 1)])
        for place in ((), (1,), (-1,), (0, 0), (0, 1), (0, 0, 2), (0, 0, -1), (0, 1, 0), (0, 0, 0, 0), (0, 0, 1, 0), (0, 2, 0), "a", None, ("0",), 0):
            self.assertIs(is_paper(one, one, {**table, (place, start): [(ON, start)]}), False)

    def test_what_is_passed_stays(self):
        table = {key: as_lists(ends) for key, ends in paper(self.ONE, self.OTHER).items()}
        promises = [list(NEVER)]
        before = str(table)
        for thing in (table, {**table, "wrong": [table]}):
            is_paper(self.ONE, self.OTHER, thing, promises)
            self.assertEqual((str(table), promises), (before, [list(NEVER)]))
        self.assertEqual(paper(promises=promises, other=self.OTHER, one=self.ONE), paper(self.ONE, self.OTHER, [NEVER]))
        self.assertEqual(promises, [list(NEVER)])


class ByTurns(unittest.TestCase):
    def test_two_pairs_of_programs(self):
        pairs = list(some_alike(12, 8))
        tables = [paper(*pair[:3]) for pair in pairs]
        for (first, one), (second, other) in itertools.permutations(enumerate(pairs), 2):
            self.assertEqual(paper(*one[:3]), tables[first])
            if len(one[0].parts()) != len(other[0].parts()):
                continue
            right = has_form(other[0].parts(), tables[first]) and slow_right(other[0].parts(), other[1].parts(), tables[first], other[2])
            self.assertIs(is_paper(*other[:2], tables[first], other[2]), right)
        for pair, table in zip(pairs, tables):
            given = as_lists(pair[0].parts())
            one = Program(given)
            wanted = paper(one, pair[1], pair[2])
            spoiled(given)
            self.assertEqual(wanted, table)
            self.assertEqual(paper(one, pair[1], pair[2]), table)
            self.assertEqual(len(writes_of(one.parts())), len(one.writes()))


def has_hash(thing):
    try:
        hash(thing)
    except TypeError:
        return False
    return True


def paths(thing):
    """The ways to all items of nested tuples, at all depths."""
    yield ()
    if isinstance(thing, tuple):
        for index, item in enumerate(thing):
            for path in paths(item):
                yield index, *path


def at_path(thing, path):
    for index in path:
        thing = thing[index]
    return thing


def replaced(thing, path, new):
    if not path:
        return new
    index = path[0]
    return thing[:index] + (replaced(thing[index], path[1:], new),) + thing[index + 1:]


def frozen(table):
    return {key: tuples(ends) for key, ends in table.items()}


if __name__ == "__main__":
    unittest.main()
