"""What the writes of programs write, told in numbers.

A SPOT is where a content stands or what it is: from 0 on the number of a cell of the part at hand;
below 0 that of an integer, which is ZERO for 0; or ASKED.
"""

from idlewrites.skeletons import ZERO, name_numbers

# In the place of a cell: the answer that is taken just now.
ASKED = -1000000000


class Effects:
    """What the writes of some programs write; equal integers have the same spot in all of them.

    The effect of a write is a tuple (name, other, spot): the number of the name to whose cell it
    writes, and either the number of the name that is copied, and None, or None, and what is written.
    """

    def __init__(self):
        self._integers = [0]
        self._spots = {0: ZERO}

    def spot_of(self, integer):
        """Return the spot of an integer."""
        if integer not in self._spots:
            self._spots[integer] = ZERO - len(self._integers)
            self._integers.append(integer)
        return self._spots[integer]

    def integer_at(self, spot):
        """Return the integer that has a spot."""
        return self._integers[ZERO - spot]

    def of_writes(self, program):
        """Return the effects of all writes of a program, by their places."""
        names = [name_numbers(part) for part in program.parts()]
        return {place: self._effect(program[place], names[place[0]]) for place in program.writes()}

    def _effect(self, deed, names):
        """Return the effect of a write, names being the numbers of the names of its part."""
        if deed[0] == "copy":
            return names[deed[1]], names[deed[2]], None
        if deed[0] == "ask":
            return names[deed[1]], None, ASKED
        return names[deed[1]], None, self.spot_of(deed[2])


def source(effect, cells, spot):
    """Return the spot of a content ahead of a write, the cells being those of the part's names.

    The effect is None if nothing is written.
    """
    if effect is None or cells[effect[0]] != spot:
        return spot
    return effect[2] if effect[1] is None else cells[effect[1]]


def is_integer_spot(spot):
    """Tell whether a spot is that of an integer."""
    return ASKED < spot < 0
