"""The questions in which runs the number that a write writes comes out.

Traces have one spot, that of a content that is told. It has come out as asked where the write that is
asked for writes it: all runs to that spot lead on to the tell.
"""

from idlewrites.effects import Effects
from idlewrites.walking import FOUND


class Sighting:
    """A question for a Tracer: in which runs a content that has passed one write is told or left."""

    def __init__(self, program, place):
        self._place = place
        self._effects = Effects().of_writes(program)

    def is_idle(self):
        """Tell whether it is plain from the outset that no content has passed the write."""
        return False

    def at_tell(self, cell):
        """Return the trace at a tell of a cell."""
        return (cell,)

    def before(self, place, cells, trace):
        """Return the trace ahead of a write, the cells being those of the part's names, or None."""
        effect = self._effects.get(place)
        if not writes_to(effect, cells, trace):
            return trace
        return FOUND if place == self._place else copied(effect, cells)

    def settled(self, trace):
        """Return the trace, or None if its content is known to have passed nothing before."""
        return settled_sight(trace)

    def is_asked(self, trace):
        """Tell that the numbers at the beginning have passed no write."""
        return False


class Sightings:
    """A question for a Sweep: of some writes, for each in its order, whether its number comes out."""

    def __init__(self, program, places):
        self.every = (1 << len(places)) - 1
        self._effects = Effects().of_writes(program)
        self._bits = {place: 1 << number for number, place in enumerate(places)}

    def at_tell(self, cell):
        """Return the trace at a tell of a cell."""
        return (cell,)

    def before(self, place, cells, trace):
        """Return the traces ahead of a write, with the masks of the writes that are asked for."""
        effect = self._effects.get(place)
        if not writes_to(effect, cells, trace):
            return [(trace, self.every)]
        bit = self._bits.get(place, 0)
        return [(FOUND, bit), (copied(effect, cells), self.every & ~bit)]

    def settled(self, trace):
        """Return the trace, or None if its content is known to have passed nothing before."""
        return settled_sight(trace)

    def is_asked(self, trace):
        """Tell that the numbers at the beginning have passed no write."""
        return False


def writes_to(effect, cells, trace):
    """Tell whether a deed writes to the spot of a trace; the effect is None if it is no write."""
    return effect is not None and (cells[effect[0]],) == trace


def copied(effect, cells):
    """Return the trace of what a write copies, or None if it copies nothing."""
    return None if effect[1] is None else (cells[effect[1]],)


def settled_sight(trace):
    """Return a trace, or None if its spot is that of a new cell's content."""
    return None if trace[0] < 0 else trace
