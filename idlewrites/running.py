"""A run of a program, deed by deed."""

from idlewrites.errors import BadAnswer
from idlewrites.kinds import is_integer
from idlewrites.routes import TAKES, Routes


class Run:
    """A run of a program: what it has told, how many answers it has used, and where it stands.

    A cell is a list of one item, its content. The attribute way is None until the run ends, then
    the way of main; waits tells whether the run waits for an answer.
    """

    def __init__(self, program, cells, answers):
        self.told = []
        self.used = 0
        self.waits = False
        self.way = None
        self._answers = list(answers)
        self._parts = program.parts()
        self._indexes = {part[0]: index for index, part in enumerate(self._parts)}
        self._routes = Routes(self._parts)
        # What the callers go on with: for each of them the point of its call, and its names.
        self._callers = []
        self._point = None
        self._names = {}
        self._begin(len(self._parts) - 1, cells)

    def goes_on(self):
        """Tell whether the run neither waits nor has ended."""
        return self.way is None and not self.waits

    def stands_at(self):
        """Return the place of the deed that is done next."""
        return self._point[0]

    def step(self):
        """Do the next deed, as far as there is an answer for it; raise BadAnswer."""
        deed = self._routes.deed(self._point[0])
        answer = None
        if deed[0] in TAKES:
            if self.used == len(self._answers):
                self.waits = True
                return
            answer = self._taken(TAKES[deed[0]])
        if deed[0] == "call":
            self._callers.append((self._point, self._names))
            self._begin(self._indexes[deed[1]], [self._names[name] for name in deed[2]])
        else:
            self._change(deed, answer)
            self._point = self._routes.onward(self._point, answer)
            self._return()

    def give(self, answer):
        """Put an answer behind all others."""
        self._answers.append(answer)
        self.waits = False

    def _taken(self, kind):
        """Take the next answer, which is to be of this kind."""
        answer = self._answers[self.used]
        right = isinstance(answer, bool) if kind == "truth" else is_integer(answer)
        if not right:
            raise BadAnswer(self.used)
        self.used += 1
        return answer

    def _change(self, deed, answer):
        """Do what a deed does with names and cells."""
        word = deed[0]
        names = self._names
        if word == "put":
            names[deed[1]][0] = deed[2]
        elif word == "ask":
            names[deed[1]][0] = answer
        elif word == "copy":
            names[deed[1]][0] = names[deed[2]][0]
        elif word == "point":
            names[deed[1]] = names[deed[2]]
        elif word == "fresh":
            names[deed[1]] = [0]
        elif word == "tell":
            self.told.append(names[deed[1]][0])

    def _begin(self, index, cells):
        """Begin the body of a part, whose handed names lead to these cells."""
        _, handed, own, _ = self._parts[index]
        self._names = dict(zip(handed, cells))
        for name in own:
            self._names[name] = [0]
        self._point = self._routes.start(index)
        self._return()

    def _return(self):
        """Go back to the callers of all parts whose bodies are done."""
        while len(self._point[0]) == 1 and self.way is None:
            way = self._point[1][0]
            if len(self._callers) == 0:
                self.way = way
            else:
                point, self._names = self._callers.pop()
                self._point = self._routes.behind_call(point, way)
