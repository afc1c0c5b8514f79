"""[13] to [16]: meetings."""

import itertools
import random
import unittest

from idlewrites.errors import BadMeeting, IdleError, NoName, UnlikeNames
from idlewrites.lots import Lot
from idlewrites.meetings import Meeting, meetings
from tests.samples import GREAT, OBJECTS, as_lists, spoiled
from tests.second import all_blocks, code_of, partitions

NAMES = ["b", "a", "put", "eightabc", "zz", "c", "part"]


def pairs_of(blocks):
    """The pairs of names that stand in one block, both ways, a name with itself too."""
    return {(name, other) for block in blocks for name in block for other in block}


class Meetings(unittest.TestCase):
    def check(self, meeting, blocks):
        """All that a meeting of these blocks tells, which are ascending throughout."""
        names = sorted(name for block in blocks for name in block)
        self.assertEqual(meeting.names, tuple(names))
        self.assertEqual(meeting.blocks, tuple(blocks))
        self.assertEqual(meeting.code, code_of(blocks))
        self.assertEqual(len(meeting), len(blocks))
        for thing in (meeting.names, meeting.blocks, meeting.code, *meeting.blocks):
            self.assertIs(type(thing), tuple)
        together = pairs_of(blocks)
        for name, other in itertools.product(names, names):
            self.assertIs(meeting.one(name, other), (name, other) in together)

    def test_blocks_and_names_in_any_order(self):
        chance = random.Random(13)
        for many in range(len(NAMES) + 1):
            every = partitions(NAMES[:many])
            for blocks in chance.sample(every, min(len(every), 120)):
                ordered = tuple(sorted(tuple(sorted(block)) for block in blocks))
                for _ in range(3):
                    passed = [chance.choice((list, tuple))(chance.sample(block, len(block))) for block in blocks]
                    chance.shuffle(passed)
                    meeting = Meeting(chance.choice((list, tuple))(passed))
                    self.check(meeting, ordered)
                    self.assertEqual(meeting, Meeting(ordered))

    def test_a_meeting_as_it_stands(self):
        meeting = Meeting([["d", "b"], ["c"], ["a", "e"]])
        self.assertEqual(meeting.names, ("a", "b", "c", "d", "e"))
        self.assertEqual(meeting.blocks, (("a", "e"), ("b", "d"), ("c",)))
        self.assertEqual(meeting.code, (0, 1, 2, 1, 0))
        self.assertEqual(len(meeting), 3)
        self.assertIs(meeting.one("a", "e"), True)
        self.assertIs(meeting.one("a", "b"), False)

    def test_no_names(self):
        for passed in ([], ()):
            self.check(Meeting(passed), ())
            self.assertEqual(Meeting(passed), Meeting([]))
            for thing in OBJECTS:
                with self.assertRaises(NoName) as context:
                    Meeting(passed).one(thing, "a")
                self.assertIs(context.exception.name, thing)

    def test_what_is_passed_stays_as_it_is(self):
        passed = [["b", "a"], ("d", "c"), ["e"]]
        meeting = Meeting(passed)
        self.assertEqual(passed, [["b", "a"], ("d", "c"), ["e"]])
        passed[2].append("f")
        passed[0].reverse()
        spoiled(passed)
        self.check(meeting, (("a", "b"), ("c", "d"), ("e",)))

    def refused(self, blocks, index):
        with self.assertRaises(BadMeeting) as context:
            Meeting(blocks)
        self.assertEqual(context.exception.index, index)
        self.assertIs(type(context.exception.index), int)
        self.assertIsInstance(context.exception, IdleError)

    def test_no_list_of_blocks(self):
        for thing in (None, True, False, 0, 1, GREAT, "", "ab", {}, {"a": 1}, {0: ("a",)}, Meeting([["a"]]), Lot([])):
            self.refused(thing, 0)

    def test_the_first_wrong_block(self):
        wrong = [
            [], (), None, True, 0, "", "a", "ab", {}, {"a": "a"}, [None], ["a", None], [0], [True], [""], ["A"], ["a b"],
            ["toolongname"], ["ninechars"], ["a", "a"], ["q", "r", "q"], [["a"]], [("a",)], ["a", []], [{}], ["a", {}],
            ["a1"], ["a", "b", "\u00e4"], Meeting([["a"]]),
        ]
        for thing in wrong:
            with self.subTest(thing=thing):
                self.refused([thing], 0)
                self.refused((thing,), 0)
                self.refused([["x"], thing], 1)
                self.refused([("x", "y"), ["z"], thing, None], 2)
                self.refused([["x"], thing, thing], 1)

    def test_a_name_that_an_earlier_block_has(self):
        self.refused([["a"], ["a"]], 1)
        self.refused([["a", "b"], ["c"], ["d", "a"]], 2)
        self.refused([["a", "b"], ["c"], ["d", "c"], ["a"]], 2)
        self.refused([["a", "b"], ["a", "b"], None], 1)
        self.refused([["a", "b"], ["c", "c"], ["a"]], 1)
        # A wrong block counts as it comes, also behind one that has a name of it.
        self.refused([["a"], ["b", "a"], ["c"], []], 1)

    def test_objects_of_every_kind_as_blocks(self):
        for thing in OBJECTS:
            right = isinstance(thing, (tuple, list)) and thing in (("a",), ["a"])
            if right:
                self.check(Meeting([["x"], thing]), (("a",), ("x",)))
            else:
                self.refused([["x"], thing], 1)

    def test_no_name_with_the_very_object(self):
        meeting = Meeting([["a", "b"], ["c"]])
        for thing in (*OBJECTS, "d", "aa", "", ["a"], ("a", "b"), {"a": 1}):
            if isinstance(thing, str) and thing in meeting.names:
                continue
            for name, other in ((thing, "a"), ("c", thing), (thing, thing), (thing, "nope"), (thing, None)):
                with self.subTest(name=name, other=other):
                    with self.assertRaises(NoName) as context:
                        meeting.one(name, other)
                    self.assertIs(context.exception.name, thing)

    def test_names_of_eight_letters_and_all_letters(self):
        letters = "abcdefghijklmnopqrstuvwxyz"
        blocks = [[letters[at:at + 8].ljust(8, "z")] for at in range(0, 26, 8)]
        self.assertEqual(len(Meeting(blocks)), 4)


class Orders(unittest.TestCase):
    def test_all_pairs_of_meetings_of_up_to_five_names(self):
        for names in ("", "a", "ab", "abc", "abcd", "abcde"):
            every = [(Meeting(blocks), pairs_of(blocks)) for blocks in all_blocks(names)]
            for (one, first), (other, second) in itertools.product(every, every):
                with self.subTest(one=one.blocks, other=other.blocks):
                    self.assertIs(one <= other, first <= second)
                    self.assertIs(one < other, first < second)
                    self.assertIs(one >= other, first >= second)
                    self.assertIs(one > other, first > second)
                    self.assertIs(one == other, first == second)
                    self.assertIs(one != other, first != second)
                    self.check_joins(every, one, other, first, second)

    def check_joins(self, every, one, other, first, second):
        met, joined = one & other, one | other
        self.assertIsInstance(met, Meeting)
        self.assertIsInstance(joined, Meeting)
        self.assertEqual(pairs_of(met.blocks), first & second)
        # Of all meetings in which those stand in one block that do in either: the one with the most blocks.
        wide = [(len(meeting), meeting) for meeting, pairs in every if first | second <= pairs]
        most = max(size for size, _ in wide)
        (wanted,) = [meeting for size, meeting in wide if size == most]
        self.assertEqual(joined.blocks, wanted.blocks)
        self.assertEqual(met.code, code_of(met.blocks))
        self.assertEqual(joined.code, code_of(joined.blocks))

    def test_longer_joins(self):
        one = Meeting([["a", "b"], ["c", "d"], ["e", "f"], ["g"]])
        other = Meeting([["g", "f"], ["b", "c"], ["d", "e"], ["a"]])
        self.assertEqual((one | other).blocks, (("a", "b", "c", "d", "e", "f", "g"),))
        self.assertEqual((one & other).blocks, tuple((name,) for name in "abcdefg"))
        self.assertEqual((other | one).code, (0,) * 7)
        third = Meeting([["a"], ["b"], ["c", "f"], ["d"], ["e"], ["g"]])
        self.assertEqual((one | third).blocks, (("a", "b"), ("c", "d", "e", "f"), ("g",)))
        self.assertEqual(one.blocks, (("a", "b"), ("c", "d"), ("e", "f"), ("g",)))

    def test_unlike_names(self):
        couples = [
            ([["a"]], [["b"]]), ([["a"]], []), ([["a", "b"]], [["a"]]), ([["a"], ["b"]], [["a", "b"], ["c"]]),
            ([["a", "b"]], [["a"], ["c"]]),
        ]
        for blocks, others in couples:
            for one, other in ((Meeting(blocks), Meeting(others)), (Meeting(others), Meeting(blocks))):
                for call in (
                    lambda: one <= other, lambda: one < other, lambda: one >= other, lambda: one > other,
                    lambda: one & other, lambda: one | other,
                ):
                    with self.assertRaises(UnlikeNames):
                        call()
                self.assertIs(one == other, False)
                self.assertIs(one != other, True)

    def test_a_meeting_equals_nothing_else(self):
        for meeting in (Meeting([]), Meeting([["a"]]), Meeting([["a", "b"], ["c"]])):
            for thing in (*OBJECTS, meeting.blocks, meeting.names, meeting.code, as_lists(meeting.blocks), Lot([])):
                self.assertIs(meeting == thing, False)
                self.assertIs(thing == meeting, False)
                self.assertIs(meeting != thing, True)

    def test_other_objects_are_not_joined(self):
        meeting = Meeting([["a"]])
        for thing in (None, 1, [["a"]], (("a",),)):
            for call in (
                lambda: meeting | thing, lambda: meeting & thing, lambda: meeting <= thing, lambda: meeting < thing,
                lambda: meeting >= thing, lambda: meeting > thing,
            ):
                with self.assertRaises(TypeError):
                    call()


class AllMeetings(unittest.TestCase):
    def test_codes_ascend_and_none_is_left_out(self):
        chance = random.Random(16)
        for many, count in enumerate((1, 1, 2, 5, 15, 52, 203)):
            names = NAMES[:many]
            for passed in (names, tuple(names), names[::-1], chance.sample(names, many)):
                found = meetings(passed)
                self.assertIs(type(found), list)
                self.assertEqual(len(found), count)
                self.assertTrue(all(isinstance(meeting, Meeting) for meeting in found))
                codes = [meeting.code for meeting in found]
                self.assertTrue(all(code < after for code, after in zip(codes, codes[1:])))
                self.assertEqual([meeting.blocks for meeting in found], all_blocks(names))
                self.assertTrue(all(meeting.names == tuple(sorted(names)) for meeting in found))

    def test_codes_as_they_stand(self):
        self.assertEqual([meeting.code for meeting in meetings(["b", "c", "a"])], [
            (0, 0, 0), (0, 0, 1), (0, 1, 0), (0, 1, 1), (0, 1, 2),
        ])
        self.assertEqual([meeting.blocks for meeting in meetings(())], [()])

    def test_each_list_is_a_new_one(self):
        names = ["b", "a"]
        first = meetings(names)
        first.clear()
        self.assertEqual(names, ["b", "a"])
        names.append("c")
        self.assertEqual(len(meetings(["a", "b"])), 2)
        self.assertEqual(len(meetings(names=names)), 5)


if __name__ == "__main__":
    unittest.main()
