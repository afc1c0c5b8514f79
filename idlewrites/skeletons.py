"""What the runs of a program do, whatever its contents are: which deeds, and to which cells names lead.

No deed looks at a content to go one way or the other, so this is the same for all numbers, and for all
programs of the same bones.
"""

from idlewrites.routes import TAKES
from idlewrites.rows import EMPTY, FALSE, NUMBER, TRUE
from idlewrites.shapes import STRUCK

# In the place of a cell: the content 0, which a new cell has.
ZERO = -1

SAME = ("same",)


class Graph:
    """All runs of one part that are begun where its handed names meet in one way.

    A node stands for a point of the part and the cells to which its names lead. The cells of the
    callers are numbered from 0 to many - 1 all the time; others are numbered onward as they come in
    the names of the part. The node 0 is the beginning; `origins` has ZERO there for each new cell, and
    its number for each other one. The node of a way in `exits` is the end by this way.
    `into` has for each node the list of the steps to it, tuples (node before, row, change): the row of
    the answer that is taken, and what is changed (see Skeleton). `tells` has the pairs (node, cell) of
    all tells, `calls` the pairs (node, call) of all calls.
    """

    def __init__(self, many, origins):
        self.many = many
        self.origins = origins
        self.states = []
        self.into = []
        self.tells = []
        self.calls = []
        self.exits = {}
        self._nodes = {}

    def node(self, point, cells):
        """Return the node of a point at which the names lead to these cells."""
        # At its end the names of a part do not count any more.
        state = (point, () if point.deed is None else cells)
        if state not in self._nodes:
            self._nodes[state] = len(self.states)
            self.states.append(state)
            self.into.append([])
            if point.deed is None:
                self.exits[point.ways[0]] = self._nodes[state]
        return self._nodes[state]


class Skeleton:
    """The graphs of all parts, for programs of the same bones.

    A change is SAME; ("written", place, cells) where a write stands in some of the programs, cells
    being those to which the part's names lead; ("moved", olds), olds being the old number of each
    cell, or ZERO; or ("called", call, way). A call is a tuple (part, pattern, cells): the index of the
    part that is called, how its handed names meet, and the cells that are handed over, each once.
    """

    def __init__(self, program):
        self._parts = program.parts()
        self._routes = program.routes()
        self._names = [name_numbers(part) for part in self._parts]
        self._graphs = {}

    def graph(self, index, pattern):
        """Return the graph of the part with this index, whose handed names meet as in the pattern."""
        key = (index, pattern)
        if key not in self._graphs:
            self._graphs[key] = self._drawn(index, pattern)
        return self._graphs[key]

    def _drawn(self, index, pattern):
        """Return a new graph."""
        many = len(set(pattern))
        new = len(self._parts[index][2])
        graph = Graph(many, tuple([cell if cell < many else ZERO for cell in range(many + new)]))
        graph.node(self._routes.start(index), pattern + tuple(range(many, many + new)))
        node = 0
        while node < len(graph.states):
            deed = graph.states[node][0].deed
            if deed is not None and deed[0] == "call":
                self._draw_call(graph, node)
            elif deed is not None:
                self._draw_steps(graph, node)
            node += 1
        return graph

    def _draw_steps(self, graph, node):
        """Draw the steps from a node at which the deed is no call."""
        point, cells = graph.states[node]
        deed = point.deed
        names = self._names[point.place[0]]
        change = SAME
        after = cells
        if deed[0] in STRUCK or deed[0] in ("rest", "skip"):
            change = ("written", point.place, cells)
        elif deed[0] in ("point", "fresh"):
            cell = ZERO if deed[0] == "fresh" else cells[names[deed[2]]]
            at = names[deed[1]]
            after, olds = renumbered(cells[:at] + (cell,) + cells[at + 1:], graph.many)
            change = ("moved", olds)
        elif deed[0] == "tell":
            graph.tells.append((node, cells[names[deed[1]]]))
        for row, answer in rows_of(deed[0]):
            behind = graph.node(self._routes.onward(point, answer), after)
            graph.into[behind].append((node, row, change))

    def _draw_call(self, graph, node):
        """Draw the steps from a node at which the deed is a call, one for each way of the part."""
        point, cells = graph.states[node]
        _, part, given = point.deed
        names = self._names[point.place[0]]
        pattern, handed = renumbered([cells[names[name]] for name in given], 0)
        index = self._routes.indexes[part]
        call = (index, pattern, handed)
        graph.calls.append((node, call))
        for way in list(self.graph(index, pattern).exits):
            behind = graph.node(self._routes.behind_call(point, way), cells)
            graph.into[behind].append((node, EMPTY, ("called", call, way)))


def rows_of(word):
    """Return the pairs (row, answer) of all that a deed with this word may take; an integer steers nothing."""
    if word not in TAKES:
        return ((EMPTY, None),)
    if TAKES[word] == "integer":
        return ((NUMBER, None),)
    return ((FALSE, False), (TRUE, True))


def name_numbers(part):
    """Return a dict with the numbers of the names of a part, the handed ones first."""
    return {name: number for number, name in enumerate(part[1] + part[2])}


def renumbered(cells, many):
    """Number cells by the order in which they come, behind those from 0 to many - 1.

    Return the new numbers of the cells, and the old one for each new one.
    """
    olds = list(range(many))
    for cell in cells:
        if cell not in olds:
            olds.append(cell)
    numbers = {old: number for number, old in enumerate(olds)}
    return tuple([numbers[cell] for cell in cells]), tuple(olds)
