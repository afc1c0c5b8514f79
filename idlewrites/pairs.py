"""The question whether two programs of the same bones ever tell or leave unlike contents."""

from idlewrites.effects import ASKED, Effects, is_integer_spot, source
from idlewrites.walking import FOUND


class Pair:
    """A question for a Tracer: traces have the spot in the one program and that in the other one.

    A trace has come out as asked if the two contents come from unlike numbers.
    """

    def __init__(self, one, other):
        effects = Effects()
        self._equal = one == other
        self._one = effects.of_writes(one)
        self._other = effects.of_writes(other)

    def is_idle(self):
        """Tell whether the programs cannot differ: whether they are equal."""
        return self._equal

    def at_tell(self, cell):
        """Return the trace at a tell of a cell."""
        return cell, cell

    def before(self, place, cells, trace):
        """Return the trace ahead of a write, the cells being those of the part's names, or None."""
        spot, beside = trace
        return compared(source(self._one.get(place), cells, spot), source(self._other.get(place), cells, beside))

    def settled(self, trace):
        """Return what a trace comes to when some of its spots are known to be no cells."""
        return compared(*trace)

    def is_asked(self, trace):
        """Tell whether the contents of a trace at the beginning of main are unlike."""
        spot, beside = trace
        return spot != beside


def compared(spot, beside):
    """Return FOUND if two spots are known to be unlike, None if they are known to be alike, else their trace."""
    # Nothing else has the number of the answer that is taken just now.
    if spot == ASKED or beside == ASKED or is_integer_spot(spot) and is_integer_spot(beside):
        return None if spot == beside else FOUND
    return spot, beside
