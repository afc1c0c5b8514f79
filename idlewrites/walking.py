"""Walking back, through all runs at once, from where contents are told to where they come from.

Contents are traced from a tell, or from the end of main, back to the beginning of the run. A trace is
a tuple of the spots (see effects.py) at which the traced contents stand at a node; a cell that a part
cannot reach is OUTSIDE there. A trace that has come out as the question asks is FOUND; from there
back to the beginning nothing more is asked.

A question is an object with these methods. `at_tell(cell)` returns the trace at a tell of a cell,
`before(place, cells, trace)` what the trace is ahead of a write, `settled(trace)` what a trace comes
to when some of its spots are known to be no cells, or None if it has come out otherwise.
`is_asked(trace)` tells of a trace at the beginning of main whether it has come out as asked.

Each trace has a weight: what comes with the runs by which it leads to what is told. The classes below
say what weights are. A table is a dict with the weight of each trace at the beginning of a part with
which it leads to what is told (`_told`), or to a trace at the end of the part (`_passed`).
"""

from idlewrites.skeletons import SAME, renumbered

FOUND = ()

# In the place of a cell: a cell that a part cannot reach. No other spot is below ASKED.
OUTSIDE = -1000000001


class Walk:
    """What walks have in common, whatever their weights are.

    A class below has `_new_queue()`, an empty queue to which pairs (node, trace) are put with their
    weights; `_table(graph, queue)`, the table of a part for what is in a queue; and
    `_ahead_of_write(place, cells, trace)`, the pairs (trace, weight) ahead of a write.
    """

    def __init__(self, skeleton, question, nothing):
        self._skeleton = skeleton
        self._question = question
        # The weight of a trace at the very spot where it is told.
        self._nothing = nothing
        self._told = {}
        self._passed = {}

    def _at_ends_of_main(self, graph):
        """Return a queue with the traces of all that main tells and leaves."""
        queue = self._at_tells(graph)
        for node in list(graph.exits.values()):
            for cell in range(graph.many):
                queue.put(self._nothing, (node, self._question.at_tell(cell)))
        return queue

    def _at_tells(self, graph):
        """Return a queue with the traces at all tells of a part, and of the parts that it calls."""
        queue = self._new_queue()
        for node, cell in list(graph.tells):
            queue.put(self._nothing, (node, self._question.at_tell(cell)))
        for node, call in list(graph.calls):
            part, pattern, cells = call
            for trace, weight in self._told_table(part, pattern).items():
                queue.put(weight, (node, moved(trace, cells)))
        return queue

    def _told_table(self, part, pattern):
        """Return the table of all that is told in a part."""
        key = (part, pattern)
        if key not in self._told:
            graph = self._skeleton.graph(part, pattern)
            self._told[key] = self._table(graph, self._at_tells(graph))
        return self._told[key]

    def _passed_table(self, part, pattern, way, trace):
        """Return the table for a trace at the end of a part by a way."""
        key = (part, pattern, way, trace)
        if key not in self._passed:
            graph = self._skeleton.graph(part, pattern)
            queue = self._new_queue()
            queue.put(self._nothing, (graph.exits[way], trace))
            self._passed[key] = self._table(graph, queue)
        return self._passed[key]

    def _earlier(self, change, trace):
        """Return the pairs (trace, weight) ahead of a change, with the weights of its way alone."""
        if change[0] == "called":
            _, call, way = change
            return self._ahead_of_call(call, way, trace)
        if change == SAME or trace == FOUND:
            return [(trace, self._nothing)]
        if change[0] == "written":
            _, place, cells = change
            return self._ahead_of_write(place, cells, trace)
        earlier = self._question.settled(moved(trace, change[1]))
        return [] if earlier is None else [(earlier, self._nothing)]

    def _ahead_of_call(self, call, way, trace):
        """Return the pairs (trace, weight) ahead of a call whose part goes out by a way."""
        part, pattern, cells = call
        numbers = {cell: number for number, cell in enumerate(cells)}
        inside = tuple([spot if spot < 0 else numbers.get(spot, OUTSIDE) for spot in trace])
        if not any([spot >= 0 for spot in inside]):
            # The part cannot change such a trace, so it is passed as one that has come out.
            return [(trace, self._passed_table(part, pattern, way, FOUND)[FOUND])]
        table = self._passed_table(part, pattern, way, inside)
        return [(outside(earlier, cells, trace), weight) for earlier, weight in table.items()]


def moved(trace, olds):
    """Return a trace in the numbers that its cells had before."""
    return tuple([olds[spot] if spot >= 0 else spot for spot in trace])


def outside(earlier, cells, trace):
    """Return a trace at the beginning of a part in the numbers of its caller.

    cells are those that are handed over; trace is the one behind the call.
    """
    return tuple([behind if spot == OUTSIDE else spot for spot, behind in zip(moved(earlier, cells), trace)])


def pattern_of(marks):
    """Return how names meet, those with equal marks in one cell."""
    pattern, _ = renumbered(marks, 0)
    return pattern
