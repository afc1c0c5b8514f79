"""The question whether two programs of the same bones ever tell or leave unlike contents."""

from idlewrites.shapes import STRUCK
from idlewrites.skeletons import ZERO, name_numbers
from idlewrites.tracing import ASKED, FOUND


class Pair:
    """A question for a Tracer: traces have the spot in the one program and that in the other one.

    A trace has come out as asked if the two contents come from unlike numbers.
    """

    def __init__(self, one, other):
        self._equal = one == other
        self._integers = {0: ZERO}
        self._effects = {}
        for place in sorted(set(one.writes() + other.writes())):
            self._effects[place] = (self._effect(one, place), self._effect(other, place))

    def is_idle(self):
        """Tell whether the programs cannot differ: whether they are equal."""
        return self._equal

    def at_tell(self, cell):
        """Return the trace at a tell of a cell."""
        return cell, cell

    def before(self, place, cells, trace):
        """Return the trace ahead of a write, the cells being those of the part's names, or None."""
        if place not in self._effects:
            return trace
        effect, mate = self._effects[place]
        spot, beside = trace
        return self.settled((source(effect, cells, spot), source(mate, cells, beside)))

    def settled(self, trace):
        """Return FOUND if the two spots are known to be unlike, None if they are known to be alike."""
        spot, beside = trace
        # Nothing else has the number of the answer that is taken just now.
        if ASKED not in trace and not (is_integer_spot(spot) and is_integer_spot(beside)):
            return trace
        return None if spot == beside else FOUND

    def is_asked(self, trace):
        """Tell whether the contents of a trace at the beginning of main are unlike."""
        spot, beside = trace
        return spot != beside

    def _effect(self, program, place):
        """Return what a deed writes: None, or (number of a name, number of the name that is copied, spot)."""
        deed = program[place]
        if deed[0] not in STRUCK:
            return None
        names = name_numbers(program.parts()[place[0]])
        if deed[0] == "copy":
            return names[deed[1]], names[deed[2]], None
        if deed[0] == "ask":
            return names[deed[1]], None, ASKED
        if deed[2] not in self._integers:
            self._integers[deed[2]] = ZERO - len(self._integers)
        return names[deed[1]], None, self._integers[deed[2]]


def source(effect, cells, spot):
    """Return the spot of a content ahead of what a deed writes, the cells being those of the part's names."""
    if effect is None or cells[effect[0]] != spot:
        return spot
    return effect[2] if effect[1] is None else cells[effect[1]]


def is_integer_spot(spot):
    """Tell whether a spot is that of a written integer."""
    return ASKED < spot < 0
