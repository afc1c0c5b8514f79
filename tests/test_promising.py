"""[34], [35]: the least sets of promises under which two programs are alike, and what breaks when one is left out."""

import itertools
import random
import unittest

from idlewrites.errors import BadPromise, UnlikeBones
from idlewrites.judging import Parting, alike, good_meetings, parting
from idlewrites.meetings import meetings
from idlewrites.programs import Program
from idlewrites.promising import breaks, least_promises
from tests.mates import some_pairs, some_promises
from tests.samples import as_lists
from tests.second import keeps_all, slow_parting
from tests.tellings import slow_least

NAMES = ("a", "b", "c", "d")


def main_of(body, handed=("a", "b"), own=("t",)):
    return Program([("main", handed, own, body)])


def told_by(run):
    return run and (run.meeting.blocks, run.numbers, run.answers, [(talk.told, talk.way, talk.left) for talk in run.talks])


def puts_in_two_orders(names):
    """Two programs of the same bones that are alike only if all names lead to unlike cells."""
    puts = [("put", name, number) for number, name in enumerate(names)]
    tells = [("tell", name) for name in names]
    return main_of(puts + tells, names), main_of(puts[::-1] + tells, names)


def only_at(codes, names):
    """Two programs that are alike at meetings of some kinds, which hang on the codes."""
    one, other = [], []
    for number, name in enumerate(names):
        one.append(("put", name, codes[number]))
        other.append(("put", names[-1 - number], codes[-1 - number]))
    tells = [("tell", name) for name in names]
    return main_of(one + tells, names), main_of(other + tells, names)


class Least(unittest.TestCase):
    def check(self, one, other):
        good = good_meetings(one, other)
        told = least_promises(one, other)
        self.assertEqual(told, slow_least(one.handed(), [meeting.blocks for meeting in good]))
        self.assertIs(type(told), list)
        for chosen in told:
            self.assertIs(type(chosen), tuple)
            self.assertTrue(all(type(promise) is tuple for promise in chosen))
            self.assertEqual(list(chosen), sorted(set(chosen)))
            self.assertIs(alike(one, other, chosen), True)
            self.assertTrue(any(keeps_all(meeting.blocks, chosen) for meeting in good))
            for at, run in enumerate(breaks(one, other, chosen)):
                # Without any one of the promises there is a run by which the programs part.
                self.assertIsInstance(run, Parting)
                others = chosen[:at] + chosen[at + 1:]
                self.assertEqual(told_by(run), told_by(parting(one, other, others)))
        return told

    def test_against_a_search_through_all_sets(self):
        found = 0
        for one, other, _ in some_pairs(350, 34):
            told = self.check(Program(one), Program(other))
            found += told not in ([()], [])
        self.assertGreater(found, 15)

    def test_two_orders_of_puts(self):
        for many in (2, 3, 4):
            for seed in range(60 if many < 4 else 12):
                chance = random.Random(seed)
                codes = [chance.choice((0, 1, 2)) for _ in range(many)]
                self.check(*only_at(codes, NAMES[:many]))

    def test_all_nevers(self):
        one, other = puts_in_two_orders(NAMES)
        wanted = tuple(("never", *pair) for pair in itertools.combinations(NAMES, 2))
        self.assertEqual(self.check(one, other), [wanted])
        self.assertEqual(len(wanted), 6)
        self.assertEqual([meeting.code for meeting in good_meetings(one, other)], [(0, 1, 2, 3)])

    def test_all_at_one_cell(self):
        # Alike only if all names lead to one cell: there are many least sets, one for each tree of names.
        body = [("put", "a", 1), ("put", "b", 2), ("put", "c", 3), ("put", "d", 4)] + [("tell", name) for name in NAMES]
        one = main_of(body, NAMES)
        told = self.check(one, one - [(0, 0), (0, 1), (0, 2)])
        self.assertEqual({len(chosen) for chosen in told}, {3})
        self.assertEqual({promise[0] for chosen in told for promise in chosen}, {"always"})
        self.assertEqual(len(told), 16)

    def test_alike_at_all_meetings_and_at_none(self):
        one = main_of([("put", "a", 1), ("put", "b", 1)])
        self.assertEqual(least_promises(one, one), [()])
        self.assertEqual(least_promises(one, one - [(0, 0), (0, 1)]), [])
        for handed in ((), ("a",)):
            one = main_of([("put", "t", 1), ("tell", "t")], handed)
            self.assertEqual(least_promises(one, one), [()])
            self.assertEqual(least_promises(one, one - [(0, 0)]), [])

    def test_their_order(self):
        # Fewer promises come first, and as many in the order of Python.
        one = main_of([("put", "a", 1), ("put", "b", 2), ("put", "c", 3), ("tell", "a"), ("tell", "b")], ("a", "b", "c"))
        self.assertEqual(least_promises(one, one - [(0, 0)]), [(("always", "a", "b"),), (("always", "a", "c"),)])
        for one, other, _ in some_pairs(200, 35, handed=4):
            told = least_promises(Program(one), Program(other))
            self.assertEqual(told, sorted(told, key=lambda chosen: (len(chosen), chosen)))

    def test_sets_that_are_kept_by_the_same_meetings(self):
        one = main_of([("put", "a", 1), ("put", "b", 2), ("put", "c", 3), ("tell", "a"), ("tell", "b"), ("tell", "c")], ("a", "b", "c"))
        told = self.check(one, one - [(0, 0), (0, 1)])
        self.assertEqual(told, [
            (("always", "a", "b"), ("always", "a", "c")), (("always", "a", "b"), ("always", "b", "c")),
            (("always", "a", "c"), ("always", "b", "c")),
        ])

    def test_names_in_any_order(self):
        one = main_of([("put", "c", 1), ("put", "a", 2), ("tell", "c")], ("c", "b", "a"))
        self.assertEqual(self.check(one, one - [(0, 0)]), [
            (("always", "a", "c"),), (("always", "a", "b"), ("always", "b", "c")),
        ])

    def test_a_new_list_each_time(self):
        one = main_of([("put", "a", 1), ("put", "b", 2), ("tell", "a")])
        told = least_promises(one, one - [(0, 0)])
        told.append("spoiled")
        self.assertEqual(least_promises(other=one - [(0, 0)], one=one), [(("always", "a", "b"),)])

    def test_all_promises_that_meetings_keep(self):
        # Under all the promises of one meeting programs are alike just if it is a good one.
        for seed in range(20):
            chance = random.Random(seed)
            one, other = only_at([chance.choice((0, 1)) for _ in range(4)], NAMES)
            good = good_meetings(one, other)
            told = least_promises(one, other)
            for meeting in meetings(NAMES):
                promises = [("always" if meeting.one(*pair) else "never", *pair) for pair in itertools.combinations(NAMES, 2)]
                self.assertIs(alike(one, other, promises), meeting in good)
                self.assertIs(any(set(chosen) <= set(promises) for chosen in told), meeting in good)


class Breaks(unittest.TestCase):
    ONE = main_of([("put", "a", 1), ("put", "b", 2), ("put", "c", 3), ("tell", "a"), ("tell", "b"), ("tell", "c")], ("a", "b", "c"))
    OTHER = ONE - [(0, 0), (0, 1)]

    def test_each_promise_at_its_index(self):
        promises = [("always", "a", "b"), ("always", "a", "c")]
        found = breaks(self.ONE, self.OTHER, promises)
        self.assertIs(type(found), list)
        self.assertEqual([run.meeting.code for run in found], [(0, 1, 0), (0, 0, 1)])
        self.assertEqual([run.meeting.code for run in breaks(self.ONE, self.OTHER, promises[::-1])], [(0, 0, 1), (0, 1, 0)])
        self.assertEqual([told_by(run) for run in found], [told_by(parting(self.ONE, self.OTHER, [promises[1 - at]])) for at in (0, 1)])

    def test_a_promise_that_stands_twice(self):
        first, second = ("always", "a", "b"), ("always", "a", "c")
        found = breaks(self.ONE, self.OTHER, [first, second, first])
        self.assertEqual([run and run.meeting.code for run in found], [None, (0, 0, 1), None])
        found = breaks(self.ONE, self.OTHER, (first, first))
        self.assertEqual([run.meeting.code for run in found], [(0, 0, 1)] * 2)

    def test_none(self):
        self.assertEqual(breaks(self.ONE, self.OTHER, []), [])
        self.assertEqual(breaks(self.ONE, self.OTHER, ()), [])
        self.assertEqual(breaks(self.ONE, self.ONE, [("never", "a", "b"), ("always", "a", "b")]), [None, None])

    def test_promises_that_no_meeting_keeps_together(self):
        promises = [("always", "a", "b"), ("never", "a", "b")]
        found = breaks(self.ONE, self.OTHER, promises)
        self.assertEqual([run.meeting.code for run in found], [(0, 1, 0), (0, 0, 1)])

    def test_against_parting_and_the_second_telling(self):
        found = 0
        for one, other, promises in some_pairs(250, 36, room=10):
            first, second = Program(one), Program(other)
            promises = promises + some_promises(random.Random(str(one)), one[-1][1])
            told = breaks(first, second, promises)
            self.assertEqual(len(told), len(promises))
            for at, run in enumerate(told):
                others = promises[:at] + promises[at + 1:]
                self.assertEqual(told_by(run), told_by(parting(first, second, others)))
                slow = slow_parting(one, other, others)
                self.assertEqual(run and run.meeting.blocks, slow and slow[0])
                found += run is not None
        self.assertGreater(found, 20)

    def test_errors(self):
        unlike = main_of([("skip",)], ("a", "b", "c"))
        right = ("always", "a", "b")
        for promises in ([], [right], ["wrong"], None):
            with self.assertRaises(UnlikeBones):
                breaks(self.ONE, unlike, promises)
        for promises, index in ((["wrong"], 0), ([right, right, ("never", "b", "a")], 2), (None, 0), ({}, 0), ("", 0), ([right, None], 1)):
            for other in (self.ONE, self.OTHER):
                with self.assertRaises(BadPromise) as context:
                    breaks(self.ONE, other, promises)
                self.assertEqual(context.exception.index, index)
        with self.assertRaises(UnlikeBones):
            least_promises(self.ONE, unlike)

    def test_what_is_passed_stays(self):
        promises = [["always", "a", "b"], ["always", "a", "c"]]
        found = breaks(promises=promises, other=self.OTHER, one=self.ONE)
        self.assertEqual(promises, [["always", "a", "b"], ["always", "a", "c"]])
        wanted = [told_by(run) for run in found]
        found[0].numbers = None
        found.clear()
        self.assertEqual([told_by(run) for run in breaks(self.ONE, self.OTHER, tuple(as_lists(promises)))], wanted)


if __name__ == "__main__":
    unittest.main()
