"""Tracing contents that are told back to where they come from, with the least rows of answers."""

from idlewrites.rows import EMPTY, Queue, joined
from idlewrites.walking import FOUND, Walk, pattern_of


class Tracer(Walk):
    """Finds the least rows of answers for one question about programs with one skeleton.

    The weight of a trace is the least row of answers by which it leads to what is told. `before` of
    the question returns the trace ahead of a write, or None if it has come out otherwise. `is_idle()`
    tells whether it is plain from the outset that none will come out as asked.
    """

    def __init__(self, skeleton, question):
        Walk.__init__(self, skeleton, question, EMPTY)
        self._least = {}

    def least_row(self, index, marks):
        """Return the least row with which main tells or leaves what is asked for, or None.

        index is that of main; of its handed names, those with equal marks lead to one cell.
        """
        pattern = pattern_of(marks)
        if pattern not in self._least:
            self._least[pattern] = self._found_row(self._skeleton.graph(index, pattern))
        return self._least[pattern]

    def _found_row(self, graph):
        """Do as least_row, but find the row anew."""
        if self._question.is_idle():
            return None
        queue = self._at_ends_of_main(graph)
        for trace, row in self._starts(graph, queue):
            if trace == FOUND or self._question.is_asked(trace):
                return row
        return None

    def _new_queue(self):
        """Return an empty queue."""
        return Queue()

    def _table(self, graph, queue):
        """Return the table for the traces in a queue, each at its node."""
        table = {}
        for trace, row in self._starts(graph, queue):
            table[trace] = table.get(trace, row)
        return table

    def _starts(self, graph, queue):
        """Yield the pairs (trace, row) at the beginning of a part to which those in a queue lead.

        Rows are ascending, so the first one for a trace is the least.
        """
        seen = {}
        while len(queue) > 0:
            row, state = queue.take()
            if state in seen:
                continue
            seen[state] = True
            node, trace = state
            if node == 0:
                for earlier, _ in self._earlier(("moved", graph.origins), trace):
                    yield earlier, row
            for before, taken, change in graph.into[node]:
                for earlier, inner in self._earlier(change, trace):
                    queue.put(joined(joined(taken, inner), row), (before, earlier))

    def _ahead_of_write(self, place, cells, trace):
        """Return the pairs (trace, row) ahead of a write; no answer is taken on the way."""
        earlier = self._question.before(place, cells, trace)
        return [] if earlier is None else [(earlier, EMPTY)]
