"""The question, for many lots at once, whether a program changes when a lot is struck."""

from idlewrites.effects import Effects, source
from idlewrites.pairs import compared


class Choice:
    """A question for a Sweep: for each lot, whether the program and the one in which it is struck part.

    Traces have the spot in the program and that in the struck one, as those of a Pair.
    """

    def __init__(self, program, lots):
        self.every = (1 << len(lots)) - 1
        self._effects = Effects().of_writes(program)
        # For each write the mask of the lots in which it is.
        self._struck = {place: 0 for place in self._effects}
        for number, lot in enumerate(lots):
            for place in lot:
                self._struck[place] = self._struck[place] | 1 << number

    def at_tell(self, cell):
        """Return the trace at a tell of a cell."""
        return cell, cell

    def before(self, place, cells, trace):
        """Return the traces ahead of a write where it is struck and where it is not, with their masks."""
        effect = self._effects.get(place)
        spot, beside = trace
        earlier = source(effect, cells, spot)
        still = source(effect, cells, beside)
        if still == beside:
            return [(compared(earlier, still), self.every)]
        struck = self._struck[place]
        return [(compared(earlier, still), self.every & ~struck), (compared(earlier, beside), struck)]

    def settled(self, trace):
        """Return what a trace comes to when some of its spots are known to be no cells."""
        return compared(*trace)

    def is_asked(self, trace):
        """Tell whether the contents of a trace at the beginning of main are unlike."""
        spot, beside = trace
        return spot != beside
