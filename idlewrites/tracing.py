"""Tracing contents that are told back to where they come from, with the least rows of answers.

Contents are traced from a tell, or from the end of main, back to the beginning of the run, through
all runs at once. A trace is a tuple of the spots at which the traced contents stand at a node. A spot
is the number of a cell of the part at hand; or that of a written integer, which is below 0; or ASKED
or OUTSIDE. A trace that has come out as the question asks is FOUND; from there back to the beginning
nothing more is asked.

A question is an object with these methods. `at_tell(cell)` returns the trace at a tell of a cell,
`before(place, cells, trace)` the trace ahead of a write, `settled(trace)` what a trace comes to when
some of its spots are known to be no cells; both return None if the trace has come out otherwise.
`is_asked(trace)` tells of a trace at the beginning of main whether it has come out as asked, and
`is_idle()` whether it is plain from the outset that none will.
"""

from idlewrites.rows import EMPTY, Queue, joined
from idlewrites.skeletons import SAME, renumbered

FOUND = ()

# In the place of a cell: the answer that is taken just now, and a cell that a part cannot reach.
ASKED = -1000000000
OUTSIDE = -1000000001


class Tracer:
    """Finds the least rows of answers for one question about programs with one skeleton.

    A table is a dict with the least row for each trace at the beginning of a part: with it such a
    trace leads to what is told (`_told`), or to a trace at the end of the part (`_passed`).
    """

    def __init__(self, skeleton, question):
        self._skeleton = skeleton
        self._question = question
        self._told = {}
        self._passed = {}

    def least_row(self, index, marks):
        """Return the least row with which main tells or leaves what is asked for, or None.

        index is that of main; of its handed names, those with equal marks lead to one cell.
        """
        if self._question.is_idle():
            return None
        pattern, _ = renumbered(marks, 0)
        graph = self._skeleton.graph(index, pattern)
        queue = self._tells(graph)
        for node in list(graph.exits.values()):
            for cell in range(graph.many):
                queue.put(EMPTY, (node, self._question.at_tell(cell)))
        for trace, row in self._starts(graph, queue):
            if trace == FOUND or self._question.is_asked(trace):
                return row
        return None

    def _tells(self, graph):
        """Return a queue with the traces at all tells of a part, and of the parts that it calls."""
        queue = Queue()
        for node, cell in list(graph.tells):
            queue.put(EMPTY, (node, self._question.at_tell(cell)))
        for node, call in list(graph.calls):
            part, pattern, cells = call
            for trace, row in self._told_table(part, pattern).items():
                queue.put(row, (node, moved(trace, cells)))
        return queue

    def _told_table(self, part, pattern):
        """Return the table of all that is told in a part."""
        key = (part, pattern)
        if key not in self._told:
            graph = self._skeleton.graph(part, pattern)
            self._told[key] = self._table(graph, self._tells(graph))
        return self._told[key]

    def _passed_table(self, part, pattern, way, trace):
        """Return the table for a trace at the end of a part by a way."""
        key = (part, pattern, way, trace)
        if key not in self._passed:
            graph = self._skeleton.graph(part, pattern)
            queue = Queue()
            queue.put(EMPTY, (graph.exits[way], trace))
            self._passed[key] = self._table(graph, queue)
        return self._passed[key]

    def _table(self, graph, queue):
        """Return the table for the traces in a queue, each at its node."""
        table = {}
        for trace, row in self._starts(graph, queue):
            table[trace] = table.get(trace, row)
        return table

    def _starts(self, graph, queue):
        """Yield the pairs (trace, row) at the beginning of a part to which those in a queue lead.

        Rows are ascending, so the first one for a trace is the least.
        """
        seen = {}
        while len(queue) > 0:
            row, state = queue.take()
            if state in seen:
                continue
            seen[state] = True
            node, trace = state
            if node == 0:
                for earlier, _ in self._earlier(("moved", graph.origins), trace):
                    yield earlier, row
            for before, taken, change in graph.into[node]:
                for earlier, inner in self._earlier(change, trace):
                    queue.put(joined(joined(taken, inner), row), (before, earlier))

    def _earlier(self, change, trace):
        """Return the pairs (trace, row) ahead of a change, with the rows that are taken on its way."""
        if change[0] == "called":
            _, call, way = change
            return self._ahead_of_call(call, way, trace)
        if change == SAME or trace == FOUND:
            return [(trace, EMPTY)]
        if change[0] == "moved":
            earlier = self._question.settled(moved(trace, change[1]))
        else:
            _, place, cells = change
            earlier = self._question.before(place, cells, trace)
        return [] if earlier is None else [(earlier, EMPTY)]

    def _ahead_of_call(self, call, way, trace):
        """Return the pairs (trace, row) ahead of a call whose part goes out by a way."""
        part, pattern, cells = call
        numbers = {cell: number for number, cell in enumerate(cells)}
        inside = tuple([spot if spot < 0 else numbers.get(spot, OUTSIDE) for spot in trace])
        if not any([spot >= 0 for spot in inside]):
            # The part cannot change such a trace, so it is passed as one that has come out.
            return [(trace, self._passed_table(part, pattern, way, FOUND)[FOUND])]
        table = self._passed_table(part, pattern, way, inside)
        return [(outside(earlier, cells, trace), row) for earlier, row in table.items()]


def moved(trace, olds):
    """Return a trace in the numbers that its cells had before."""
    return tuple([olds[spot] if spot >= 0 else spot for spot in trace])


def outside(earlier, cells, trace):
    """Return a trace at the beginning of a part in the numbers of its caller.

    cells are those that are handed over; trace is the one behind the call.
    """
    return tuple([behind if spot == OUTSIDE else spot for spot, behind in zip(moved(earlier, cells), trace)])
