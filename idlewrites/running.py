"""A run of a program, deed by deed."""

from idlewrites.errors import BadAnswer
from idlewrites.kinds import is_integer


class Run:
    """A run of a program: what it has told, how many answers it has used, and where it stands.

    A cell is a list of one item, its content. The attribute way is None until the run ends, then
    the way of main; waits tells whether the run waits for an answer.
    """

    def __init__(self, program, cells, answers):
        self.told = []
        self.used = 0
        self.waits = False
        self.way = None
        self._answers = list(answers)
        self._parts = program.parts()
        self._routes = program.routes()
        # What the callers go on with: for each of them the point of its call, and its names.
        self._callers = []
        self._point = None
        self._names = {}
        self._begin(len(self._parts) - 1, cells)

    def go(self):
        """Do deeds until the run waits or has ended; raise BadAnswer."""
        while self.way is None and not self.waits:
            self.step()

    def goes_on(self):
        """Tell whether the run neither waits nor has ended."""
        return self.way is None and not self.waits

    def stands_at(self):
        """Return the point of the deed that is done next."""
        return self._point

    def step(self):
        """Do the next deed, as far as there is an answer for it; raise BadAnswer."""
        point = self._point
        deed = point.deed
        answer = None
        if point.takes is not None:
            if self.used == len(self._answers):
                self.waits = True
                return
            answer = self._taken(point.takes)
        if deed[0] == "call":
            self._callers.append((point, self._names))
            self._begin(self._routes.indexes[deed[1]], [self._names[name] for name in deed[2]])
        else:
            self._change(deed, answer)
            self._go_to(self._routes.onward(point, answer))

    def give(self, answer):
        """Put an answer behind all others."""
        self._answers.append(answer)
        self.waits = False

    def _taken(self, kind):
        """Take the next answer, which is to be of this kind."""
        answer = self._answers[self.used]
        right = isinstance(answer, bool) if kind == "truth" else is_integer(answer)
        if not right:
            raise BadAnswer(self.used)
        self.used += 1
        return answer

    def _change(self, deed, answer):
        """Do what a deed does with names and cells."""
        word = deed[0]
        names = self._names
        if word == "put":
            names[deed[1]][0] = deed[2]
        elif word == "ask":
            names[deed[1]][0] = answer
        elif word == "copy":
            names[deed[1]][0] = names[deed[2]][0]
        elif word == "point":
            names[deed[1]] = names[deed[2]]
        elif word == "fresh":
            names[deed[1]] = [0]
        elif word == "tell":
            self.told.append(names[deed[1]][0])

    def _begin(self, index, cells):
        """Begin the body of a part, whose handed names lead to these cells."""
        _, handed, own, _ = self._parts[index]
        self._names = dict(zip(handed, cells))
        for name in own:
            self._names[name] = [0]
        self._go_to(self._routes.start(index))

    def _go_to(self, point):
        """Stand at a point, or, if the body of the part is done there, go back to the callers."""
        while point.deed is None and len(self._callers) > 0:
            call, self._names = self._callers.pop()
            point = self._routes.behind_call(call, point.ways[0])
        self._point = point
        if point.deed is None:
            self.way = point.ways[0]
