"""Meetings: which of some names lead to one cell."""

from idlewrites.errors import BadMeeting, NoName, UnlikeNames
from idlewrites.kinds import are_names, is_list


class Meeting:
    """Some names, parted into blocks; the names of a block lead to one cell."""

    def __init__(self, blocks):
        self.blocks = ascending_blocks(blocks)
        self._numbers = {name: number for number, block in enumerate(self.blocks) for name in block}
        self.names = tuple(sorted(set(self._numbers)))
        self.code = tuple([self._numbers[name] for name in self.names])

    def one(self, name, other):
        """Tell whether two of the names stand in one block; raise NoName."""
        for thing in (name, other):
            if not isinstance(thing, str) or thing not in self._numbers:
                raise NoName(thing)
        return self._numbers[name] == self._numbers[other]

    def __len__(self):
        return len(self.blocks)

    def __eq__(self, other):
        return isinstance(other, Meeting) and self.blocks == other.blocks

    def __and__(self, other):
        if not isinstance(other, Meeting):
            return NotImplemented
        self._check_names(other)
        return Meeting(grouped(self.names, list(zip(self.code, other.code))))

    def __or__(self, other):
        if not isinstance(other, Meeting):
            return NotImplemented
        self._check_names(other)
        marks = self.code
        for block in other.blocks:
            marks = united(self.names, marks, block)
        return Meeting(grouped(self.names, marks))

    def __le__(self, other):
        if not isinstance(other, Meeting):
            return NotImplemented
        return self._parts_finer(other)

    def __lt__(self, other):
        if not isinstance(other, Meeting):
            return NotImplemented
        return self._parts_finer(other) and self.blocks != other.blocks

    def __ge__(self, other):
        if not isinstance(other, Meeting):
            return NotImplemented
        return other._parts_finer(self)

    def __gt__(self, other):
        if not isinstance(other, Meeting):
            return NotImplemented
        return other._parts_finer(self) and self.blocks != other.blocks

    def _check_names(self, other):
        """Raise UnlikeNames if another meeting is one of other names."""
        if self.names != other.names:
            raise UnlikeNames()

    def _parts_finer(self, other):
        """Tell whether each block lies within a block of another meeting of the same names."""
        self._check_names(other)
        return all([other.one(block[0], name) for block in self.blocks for name in block])


def meetings(names):
    """Return the list of all meetings of some names, by ascending codes."""
    ascending = sorted(set(names))
    codes = [()]
    for _ in ascending:
        # Blocks are numbered as they come, so a name is in one of those so far or in the next one.
        codes = [(*code, number) for code in codes for number in range(len(set(code)) + 1)]
    return [Meeting(grouped(ascending, code)) for code in codes]


def marks_of(names, meeting):
    """Return the list of the numbers of the blocks in which some names of a meeting stand."""
    numbers = dict(zip(meeting.names, meeting.code))
    return [numbers[name] for name in names]


def ascending_blocks(things):
    """Return blocks as tuples, ascending throughout; raise BadMeeting if they make no meeting."""
    if not is_list(things):
        raise BadMeeting(0)
    blocks = []
    taken = {}
    for index, thing in enumerate(things):
        if not is_block(thing, taken):
            raise BadMeeting(index)
        for name in thing:
            taken[name] = True
        blocks.append(tuple(sorted(set(thing))))
    return tuple(sorted(set(blocks)))


def is_block(thing, taken):
    """Tell whether a thing is a list of names, at least one, each of which comes for the first time."""
    if not are_names(thing) or len(thing) == 0 or len(set(thing)) != len(thing):
        return False
    return all([name not in taken for name in thing])


def grouped(names, marks):
    """Return the lists of the names that have the same mark."""
    groups = {}
    for name, mark in zip(names, marks):
        groups[mark] = [*groups.get(mark, []), name]
    return list(groups.values())


def united(names, marks, block):
    """Return the marks, but one mark alone for all that the names of a block had."""
    met = [mark for name, mark in zip(names, marks) if name in block]
    return [met[0] if mark in met else mark for mark in marks]
