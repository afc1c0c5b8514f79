"""Second tellings of the document, slow and plain: runs, and the least run in which two programs differ.

`slow_play` does deeds by calling itself for the deeds inside; ways out are Python's errors.
`slow_parting` walks two programs side by side through all answers, row by row, and leaves out a row only
if both stand exactly where a lesser row has brought them, but for the names of cells and values.
"""

import itertools


class Out(Exception):
    def __init__(self, way):
        self.way = way


class Waiting(Exception):
    def __init__(self, kind):
        self.kind = kind


class WrongAnswer(Exception):
    def __init__(self, index):
        self.index = index


class SlowRun:
    """told, way, left, used as in a Talk; places of the deeds; kind is what is waited for."""

    def __init__(self, parts, blocks, numbers, answers):
        self.parts = {part[0]: (index, part) for index, part in enumerate(parts)}
        self.answers = answers
        self.told, self.places, self.used, self.way, self.left, self.kind = [], [], 0, None, None, None
        cells = [[number] for number in numbers]
        where = {name: cell for block, cell in zip(blocks, cells) for name in block}
        try:
            self.part(parts[-1][0], [where[name] for name in parts[-1][1]])
            self.way = ("end",)
        except Out as out:
            self.way = out.way
        except Waiting as waiting:
            self.kind = waiting.kind
            return
        self.left = tuple(cell[0] for cell in cells)

    def answer(self, kind):
        if self.used >= len(self.answers):
            raise Waiting(kind)
        answer = self.answers[self.used]
        if type(answer) is not kind:
            raise WrongAnswer(self.used)
        self.used += 1
        return answer

    def part(self, name, cells):
        index, (_, handed, own, body) = self.parts[name]
        names = {**dict(zip(handed, cells)), **{one: [0] for one in own}}
        try:
            self.list((index,), body, names)
        except Out as out:
            if out.way != ("leave",):
                raise

    def list(self, place, deeds, names):
        for index, deed in enumerate(deeds):
            getattr(self, "do_" + deed[0])(place + (index,), names, *deed[1:])

    def begin(self, place):
        self.places.append(place)

    def do_put(self, place, names, name, n):
        self.begin(place)
        names[name][:] = [n]

    def do_ask(self, place, names, name):
        self.begin(place)
        names[name][:] = [self.answer(int)]

    def do_copy(self, place, names, name, other):
        self.begin(place)
        names[name][:] = list(names[other])

    def do_rest(self, place, names):
        self.begin(place)

    def do_skip(self, place, names):
        self.begin(place)
        self.answer(int)

    def do_point(self, place, names, name, other):
        self.begin(place)
        names[name] = names[other]

    def do_fresh(self, place, names, name):
        self.begin(place)
        names[name] = [0]

    def do_tell(self, place, names, name):
        self.begin(place)
        self.told += names[name]

    def do_call(self, place, names, part, given):
        self.begin(place)
        self.part(part, [names[name] for name in given])

    def do_if(self, place, names, yes, no):
        self.begin(place)
        if self.answer(bool):
            self.list(place + (0,), yes, names)
        else:
            self.list(place + (1,), no, names)

    def do_loop(self, place, names, body):
        self.begin(place)
        while self.answer(bool):
            try:
                self.list(place + (0,), body, names)
            except Out as out:
                if out.way == ("stop",):
                    return
                raise
            self.begin(place)

    def do_fail(self, place, names, word):
        self.begin(place)
        raise Out(("fault", word))

    def do_try(self, place, names, body, word, caught):
        self.begin(place)
        try:
            self.list(place + (0,), body, names)
        except Out as out:
            if out.way != ("fault", word):
                raise
            self.list(place + (1,), caught, names)

    def do_last(self, place, names, body, then):
        self.begin(place)
        try:
            self.list(place + (0,), body, names)
        except Out as out:
            self.list(place + (1,), then, names)
            raise Out(out.way)
        self.list(place + (1,), then, names)

    def do_leave(self, place, names):
        self.begin(place)
        raise Out(("leave",))

    def do_stop(self, place, names):
        self.begin(place)
        raise Out(("stop",))


def slow_play(parts, blocks, numbers, answers):
    return SlowRun(parts, blocks, numbers, answers)


def partitions(names):
    """All lists of blocks of some names, in no order."""
    if not names:
        return [[]]
    first, rest = names[0], names[1:]
    found = []
    for blocks in partitions(rest):
        found.append([[first], *blocks])
        for index, block in enumerate(blocks):
            found.append(blocks[:index] + [[first, *block]] + blocks[index + 1:])
    return found


def all_blocks(names):
    """All meetings of some names, as tuples of blocks, ascending by their codes."""
    found = [tuple(sorted(tuple(sorted(block)) for block in blocks)) for blocks in partitions(list(names))]
    return sorted(found, key=code_of)


def code_of(blocks):
    where = {name: number for number, block in enumerate(blocks) for name in block}
    return tuple(where[name] for name in sorted(where))


def keeps_all(blocks, promises):
    for word, name, other in promises:
        together = any(name in block and other in block for block in blocks)
        if together != (word == "always"):
            return False
    return True


class TooLong(Exception):
    """There are more states than a test may take."""


WRITES = ("put", "copy", "rest", "ask", "skip")


def paired(deeds, others):
    """Two lists of deeds of the same bones as one list; a write is a pair of writes."""
    return tuple(pair_of(deed, other) for deed, other in zip(deeds, others))


def pair_of(deed, other):
    if deed[0] in WRITES:
        return ("write", deed, other)
    lists = {"if": (1, 2), "loop": (1,), "try": (1, 3), "last": (1, 2)}.get(deed[0], ())
    return tuple(paired(item, other[at]) if at in lists else item for at, item in enumerate(deed))


class Both:
    """Two programs that are run side by side; todo is what is still to be done, the next thing last."""

    def __init__(self, parts, blocks):
        self.parts = parts
        self.cells = {number: [("v", number), ("v", number)] for number in range(len(blocks))}
        self.many = len(blocks)
        self.next_cell = self.next_value = len(blocks)
        where = {name: number for number, block in enumerate(blocks) for name in block}
        _, handed, own, body = parts[max(parts, key=lambda name: parts[name][4])][:4]
        self.names = {name: where[name] for name in handed}
        self.todo = []
        self.new_cells(own)
        self.push(body)
        self.differs = False
        self.kind = None

    def new_cells(self, own):
        for name in own:
            self.cells[self.next_cell] = [("n", 0), ("n", 0)]
            self.names[name] = self.next_cell
            self.next_cell += 1

    def push(self, deeds):
        self.todo.extend(("do", deed) for deed in reversed(deeds))

    def state(self):
        """What counts of where both stand, with cells and values numbered as they come."""
        cells = {number: number for number in range(self.many)}

        def cell(number):
            return cells.setdefault(number, len(cells))

        def named(names):
            return tuple((name, cell(names[name])) for name in sorted(names))

        here = named(self.names)
        todo = tuple(("return", named(item[1])) if item[0] == "return" else item for item in self.todo)
        values = {}
        contents = []
        for number in sorted(cells, key=cells.get):
            for kind, value in self.cells[number]:
                contents.append((kind, values.setdefault(value, len(values)) if kind == "v" else value))
        return here, todo, tuple(contents)

    def copy(self):
        twin = Both.__new__(Both)
        twin.__dict__.update(self.__dict__)
        twin.cells = {number: list(pair) for number, pair in self.cells.items()}
        twin.names = dict(self.names)
        twin.todo = list(self.todo)
        return twin

    def go(self, answer=None):
        """Go on, with the answer that was waited for, until an answer is waited for or the run ends."""
        if self.kind is not None:
            self.answered(answer)
        while self.todo and not self.differs:
            item = self.todo.pop()
            if item[0] == "do":
                deed = item[1]
                if deed[0] in ("if", "loop") or deed[0] == "write" and deed[1][0] in ("ask", "skip"):
                    self.todo.append(item)
                    self.kind = deed[0]
                    return
                self.do(*deed)
            elif item[0] == "again":
                self.todo.append(("do", item[1]))
            elif item[0] == "then":
                self.todo.append(("resume", None))
                self.push(item[1])
            elif item[0] == "resume" and item[1] is not None:
                self.out(item[1])
            elif item[0] == "return":
                self.names = dict(item[1])
        if not self.differs:
            self.differs = any(one != other for one, other in list(self.cells.values())[:self.many])

    def answered(self, answer):
        _, deed = self.todo.pop()
        self.kind = None
        if deed[0] == "if":
            self.push(deed[1] if answer else deed[2])
        elif deed[0] == "loop":
            if answer:
                self.todo.append(("again", deed))
                self.push(deed[1])
        else:
            self.next_value += 1
            for side, write in enumerate(deed[1:]):
                if write[0] == "ask":
                    self.cells[self.names[write[1]]][side] = ("v", self.next_value)

    def do(self, word, *items):
        if word == "write":
            for side, write in enumerate(items):
                if write[0] == "put":
                    self.cells[self.names[write[1]]][side] = ("n", write[2])
                elif write[0] == "copy":
                    self.cells[self.names[write[1]]][side] = self.cells[self.names[write[2]]][side]
        elif word == "point":
            self.names[items[0]] = self.names[items[1]]
        elif word == "fresh":
            self.new_cells(items)
        elif word == "tell":
            one, other = self.cells[self.names[items[0]]]
            self.differs = self.differs or one != other
        elif word == "call":
            _, handed, own, body, _ = self.parts[items[0]]
            self.todo.append(("return", dict(self.names)))
            self.names = {name: self.names[given] for name, given in zip(handed, items[1])}
            self.new_cells(own)
            self.push(body)
        elif word == "try":
            self.todo.append(("catch", items[1], items[2]))
            self.push(items[0])
        elif word == "last":
            self.todo.append(("then", items[1]))
            self.push(items[0])
        else:
            self.out(("fault", *items) if word == "fail" else (word,))

    def out(self, way):
        while self.todo:
            item = self.todo.pop()
            if item[0] == "again" and way == ("stop",):
                return
            if item[0] == "catch" and way == ("fault", item[1]):
                self.push(item[2])
                return
            if item[0] == "then":
                self.todo.append(("resume", way))
                self.push(item[1])
                return
            if item[0] == "return":
                self.names = dict(item[1])
                if way == ("leave",):
                    return


def slow_row(one, other, blocks, most=20000):
    """The least row of answers (None for an integer) by which two programs differ at a meeting, or None."""
    parts = {
        part[0]: (*part[:3], paired(part[3], mate[3]), index) for index, (part, mate) in enumerate(zip(one, other))
    }
    first = Both(parts, blocks)
    first.go()
    level = [((), first)]
    seen = set()
    while level:
        for row, both in level:
            if both.differs:
                return row
        following = []
        for row, both in level:
            if both.kind is None:
                continue
            state = both.state()
            if state in seen:
                continue
            seen.add(state)
            if len(seen) > most:
                raise TooLong
            for answer in (None,) if both.kind == "write" else (False, True):
                twin = both.copy()
                twin.go(answer)
                following.append((row + (answer,), twin))
        level = following
    return None


def slow_parting(one, other, promises=(), most=20000):
    """None, or the tuple (blocks, row) of the least run by which the parts of two programs differ."""
    best = None
    for blocks in all_blocks(one[-1][1]):
        if keeps_all(blocks, promises):
            row = slow_row(one, other, blocks, most)
            if row is not None:
                key = (len(row), tuple(answer is True for answer in row))
                if best is None or key < best[0]:
                    best = (key, blocks, row)
    return best and best[1:]


def slow_run(one, other, blocks, row):
    """The numbers and answers of a row, its integers going on from the greatest one that is written."""
    greatest = max([abs(n) for n in [*puts(one), *puts(other)]], default=0)
    count = itertools.count(greatest + 1)
    numbers = tuple(next(count) for _ in blocks)
    return numbers, tuple(next(count) if answer is None else answer for answer in row)


def puts(thing):
    """The integers of all put deeds in some parts."""
    if isinstance(thing, tuple):
        if len(thing) == 3 and thing[0] == "put" and isinstance(thing[2], int):
            yield thing[2]
        for item in thing:
            yield from puts(item)
