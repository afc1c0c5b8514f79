"""Sweeping back from all that is told, for many questions at once.

The questions are numbered; a MASK is an integer that has the bit k for each question number k that
it speaks of. No rows are asked for, so each spot is passed once for all questions that it concerns.
"""

from idlewrites.meetings import marks_of
from idlewrites.rows import Queue
from idlewrites.walking import FOUND, Walk, pattern_of


class Sweep(Walk):
    """Finds which of many questions about programs with one skeleton come out as asked.

    The weight of a trace is the mask of the questions for which it leads to what is told. The object
    that asks them has the attribute `every`, the mask of all; its `before` returns a list of pairs
    (trace, mask), the trace being None for questions that come out otherwise.
    """

    def __init__(self, skeleton, question):
        Walk.__init__(self, skeleton, question, question.every)

    def found_at(self, program, meeting):
        """Return the mask of the questions that come out as asked at a meeting."""
        pattern = pattern_of(marks_of(program.handed(), meeting))
        graph = self._skeleton.graph(len(program.parts()) - 1, pattern)
        found = 0
        for trace, mask in self._table(graph, self._at_ends_of_main(graph)).items():
            if trace == FOUND or self._question.is_asked(trace):
                found = found | mask
        return found

    def _new_queue(self):
        """Return an empty queue."""
        return Masks()

    def _table(self, graph, queue):
        """Return the table for the traces in a queue, each at its node."""
        table = {}
        while len(queue) > 0:
            mask, node, trace = queue.take()
            # All nodes are reached by some run, so the way to the beginning is not asked for.
            if trace == FOUND:
                table[FOUND] = table.get(FOUND, 0) | mask
                continue
            if node == 0:
                for earlier, _ in self._earlier(("moved", graph.origins), trace):
                    table[earlier] = table.get(earlier, 0) | mask
            for before, _, change in graph.into[node]:
                for earlier, inner in self._earlier(change, trace):
                    queue.put(mask & inner, (before, earlier))
        return table

    def _ahead_of_write(self, place, cells, trace):
        """Return the pairs (trace, mask) ahead of a write."""
        return [pair for pair in self._question.before(place, cells, trace) if pair[0] is not None]


class Masks:
    """Pairs (node, trace) that wait, with their masks; one with the greatest node is taken first.

    Nodes are numbered as runs come to them, so what leads to a node has mostly come when it is taken.
    """

    def __init__(self):
        self._queue = Queue()
        # For each pair all that has come so far, and what has come since it was taken.
        self._known = {}
        self._fresh = {}

    def __len__(self):
        return len(self._queue)

    def put(self, mask, state):
        """Let a pair wait, if its mask has something new."""
        known = self._known.get(state, 0)
        if known | mask == known:
            return
        self._known[state] = known | mask
        if state not in self._fresh:
            self._queue.put(-state[0], state)
        self._fresh[state] = self._fresh.get(state, 0) | mask & ~known

    def take(self):
        """Take a tuple (mask, node, trace) out, the mask being that of what is new."""
        _, state = self._queue.take()
        node, trace = state
        return self._fresh.pop(state), node, trace
