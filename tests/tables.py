"""Second telling of section 11, slow and plain: papers, and whether a thing is one.

A standing is kept as an object whose cells and values are objects without numbers; they get their numbers
only where a standing is written down. `slow_paper` tells a paper, `slow_faults` what is wrong with one.
"""

from tests.second import all_blocks, keeps_all

LISTS = {"if": (1, 2), "loop": (1,), "try": (1, 3), "last": (1, 2)}


class Wrong(Exception):
    """What is wrong with a paper."""


class Value:
    """A number of which nothing is known but that it is unlike all others."""


class Cell:
    def __init__(self, one, other):
        self.pair = (one, other)


class Place:
    """Where two runs stand: the cells of outer, those of the names, and the pairs of contents of all cells."""

    def __init__(self, outer, names, pairs):
        self.outer, self.names, self.pairs = list(outer), dict(names), dict(pairs)

    def copy(self):
        return Place(self.outer, self.names, self.pairs)

    def fresh(self, name):
        self.names[name] = Cell(None, None)
        self.pairs[self.names[name]] = (("n", 0), ("n", 0))

    def write(self, side, name, content):
        pair = list(self.pairs[self.names[name]])
        pair[side] = content
        self.pairs[self.names[name]] = tuple(pair)

    def down(self, order, values):
        """Write the standing down; `values` has the numbers of the values that are known, and gets those of the others."""
        cells = []
        for cell in [*self.outer, *(self.names[name] for name in order)]:
            if cell not in cells:
                cells.append(cell)

        def content(thing):
            if thing[0] == "n":
                return thing
            return "v", values.setdefault(thing[1], len(values))

        contents = tuple(tuple(content(thing) for thing in self.pairs[cell]) for cell in cells)
        return (
            tuple(cells.index(cell) for cell in self.outer), tuple(cells.index(self.names[name]) for name in order), contents,
        )


def up(standing, order, values):
    """The Place of a standing that is written down; `values` has the values by their numbers, others are new ones."""
    outer, names, contents = standing
    values = dict(values)

    def content(thing):
        kind, number = thing
        return thing if kind == "n" else ("v", values.setdefault(number, Value()))

    pairs = {Cell(None, None): tuple(content(thing) for thing in pair) for pair in contents}
    cells = list(pairs)
    return Place([cells[number] for number in outer], {name: cells[number] for name, number in zip(order, names)}, pairs)


class Teller:
    """Does lists of deeds. `under(key)` gives the ends under a key."""

    def __init__(self, one, other):
        self.one, self.other = one, other
        self.index = {part[0]: number for number, part in enumerate(one)}
        self.mates = {}
        self.lists = {}
        for number, part in enumerate(one):
            self.note((number,), part[3], other[number][3])

    def note(self, place, deeds, mates):
        self.lists[place] = deeds
        for number, (deed, mate) in enumerate(zip(deeds, mates)):
            here = place + (number,)
            self.mates[here] = mate
            for count, at in enumerate(LISTS.get(deed[0], ())):
                self.note(here + (count,), deed[at], mate[at])

    def order(self, place):
        return self.one[place[0]][1] + self.one[place[0]][2]

    def comes_to(self, key):
        """The set of the ends to which the list of a key comes."""
        place, standing = key
        numbers = {}
        for pair in standing[2]:
            for kind, number in pair:
                if kind == "v":
                    numbers.setdefault(number, Value())
        start = up(standing, self.order(place), numbers)
        known = {value: number for number, value in numbers.items()}
        ends = set()
        todo, met = [(0, start)], set()
        while todo:
            number, here = todo.pop()
            mark = (number, here.down(self.order(place), dict(known)))
            if mark in met:
                continue
            met.add(mark)
            if number == len(self.lists[place]):
                ends.add((("on",), mark[1]))
                continue
            for way, behind in self.deed(place + (number,), self.lists[place][number], here, known):
                if way == ("on",):
                    todo.append((number + 1, behind))
                else:
                    ends.add((way, behind.down(self.order(place), dict(known))))
        return ends

    def inner(self, place, here):
        """What the list at a place comes to from here, as pairs (way, Place)."""
        order = self.order(place)
        numbers = {}
        plain = here.down(order, numbers)
        values = {number: value for value, number in numbers.items()}
        found = []
        for way, end in self.under((place, plain)):
            behind = up(end, order, values)
            behind.outer = list(here.outer)
            # The cells of outer are still the same ones; all others may as well be new ones.
            same = dict(zip([up_cell for up_cell in self.outer_cells(end, behind)], [cell for cell in dict.fromkeys(here.outer)]))
            behind.names = {name: same.get(cell, cell) for name, cell in behind.names.items()}
            behind.pairs = {same.get(cell, cell): pair for cell, pair in behind.pairs.items()}
            found.append((way, behind))
        return found

    @staticmethod
    def outer_cells(end, behind):
        cells = list(behind.pairs)
        return [cells[number] for number in dict.fromkeys(end[0])]

    def deed(self, place, deed, here, known):
        word = deed[0]
        on = ("on",)
        if word in ("put", "copy", "rest", "ask", "skip"):
            return [(on, self.written(deed, self.mates[place], here))]
        if word == "point":
            behind = here.copy()
            behind.names[deed[1]] = here.names[deed[2]]
            return [(on, behind)]
        if word == "fresh":
            behind = here.copy()
            behind.fresh(deed[1])
            return [(on, behind)]
        if word == "tell":
            first, second = here.pairs[here.names[deed[1]]]
            if first != second:
                raise Wrong("told")
            return [(on, here)]
        if word in ("fail", "leave", "stop"):
            return [(("fault", deed[1]) if word == "fail" else (word,), here)]
        if word == "if":
            return self.inner(place + (0,), here) + self.inner(place + (1,), here)
        if word == "try":
            return [
                later
                for way, behind in self.inner(place + (0,), here)
                for later in (self.inner(place + (1,), behind) if way == ("fault", deed[2]) else [(way, behind)])
            ]
        if word == "last":
            return [
                (way if later == on else later, behind)
                for way, between in self.inner(place + (0,), here)
                for later, behind in self.inner(place + (1,), between)
            ]
        if word == "loop":
            return self.loop(place, here, known)
        return self.call(deed, here)

    def written(self, deed, mate, here):
        behind = here.copy()
        answer = ("v", Value())
        for side, write in enumerate((deed, mate)):
            if write[0] == "put":
                behind.write(side, write[1], ("n", write[2]))
            elif write[0] == "ask":
                behind.write(side, write[1], answer)
            elif write[0] == "copy":
                behind.write(side, write[1], here.pairs[here.names[write[2]]][side])
        return behind

    def loop(self, place, here, known):
        found, met, todo = [], set(), [here]
        while todo:
            here = todo.pop()
            mark = here.down(self.order(place), dict(known))
            if mark in met:
                continue
            met.add(mark)
            found.append((("on",), here))
            for way, behind in self.inner(place + (0,), here):
                if way == ("on",):
                    todo.append(behind)
                else:
                    found.append((("on",) if way == ("stop",) else way, behind))
        return found

    def call(self, deed, here):
        number = self.index[deed[1]]
        _, handed, own, _ = self.one[number]
        given = [here.names[name] for name in deed[2]]
        begun = Place(given, dict(zip(handed, given)), here.pairs)
        for name in own:
            begun.fresh(name)
        found = []
        for way, end in self.inner((number,), begun):
            behind = here.copy()
            for cell in given:
                behind.pairs[cell] = end.pairs[cell]
            found.append((("on",) if way == ("leave",) else way, behind))
        return found

    def first(self, promises):
        """The keys of the first row."""
        handed, own = self.one[-1][1:3]
        keys = []
        for blocks in all_blocks(handed):
            if keeps_all(blocks, promises):
                cells = {name: Cell(None, None) for name in handed}
                for block in blocks:
                    for name in block:
                        cells[name] = cells[block[0]]
                pairs = {}
                for cell in cells.values():
                    value = Value()
                    pairs[cell] = (("v", value), ("v", value))
                place = Place([cells[name] for name in handed], cells, pairs)
                for name in own:
                    place.fresh(name)
                keys.append(((len(self.one) - 1,), place.down(handed + own, {})))
        return keys


def slow_paper(one, other, promises=()):
    """The paper of the parts of two programs; Wrong if they tell or leave unlike contents."""
    teller = Teller(one, other)
    table = {}

    def under(key):
        if key not in table:
            table[key] = sorted(teller.comes_to(key))
        return table[key]

    teller.under = under
    for key in teller.first(promises):
        for _, end in under(key):
            check_left(end)
    return table


def check_left(standing):
    outer, _, contents = standing
    if any(contents[cell][0] != contents[cell][1] for cell in outer):
        raise Wrong("left")


def slow_right(one, other, table, promises=()):
    """Whether a dict whose keys and ends have the right form, tuples throughout, is a right paper."""
    teller = Teller(one, other)

    def under(key):
        if key not in table:
            raise Wrong("key")
        return table[key]

    teller.under = under
    try:
        for key in teller.first(promises):
            for _, end in under(key):
                check_left(end)
        for key, ends in table.items():
            if not teller.comes_to(key) <= set(ends):
                raise Wrong("end")
    except Wrong:
        return False
    return True


def tuples(thing):
    """The same with tuples in the place of all lists, but for the dicts."""
    return tuple(tuples(item) for item in thing) if isinstance(thing, (list, tuple)) else thing


def has_form(parts, thing):
    """Whether a thing has the form of a paper of programs with these bones."""
    if not isinstance(thing, dict):
        return False
    lists = Teller(parts, parts).lists
    for key, ends in thing.items():
        if not isinstance(key, tuple) or len(key) != 2 or not all_integers(key[0]) or key[0] not in lists:
            return False
        if not standing_has_form(parts[key[0][0]], key[1], 0) or not isinstance(ends, (list, tuple)):
            return False
        many = len({content for pair in key[1][2] for content in pair if content[0] == "v"})
        for end in ends:
            if not isinstance(end, (list, tuple)) or len(end) != 2 or not is_way(end[0]):
                return False
            if not standing_has_form(parts[key[0][0]], end[1], many) or tuples(end[1])[0] != key[1][0]:
                return False
    return True


def all_integers(thing):
    return isinstance(thing, (list, tuple)) and all(type(item) is int for item in thing)


def is_way(thing):
    if not isinstance(thing, (list, tuple)):
        return False
    if list(thing) in (["on"], ["leave"], ["stop"]):
        return True
    if len(thing) != 2 or thing[0] != "fault" or not isinstance(thing[1], str):
        return False
    return 1 <= len(thing[1]) <= 8 and all("a" <= letter <= "z" for letter in thing[1])


def standing_has_form(part, thing, many):
    if not isinstance(thing, (list, tuple)) or len(thing) != 3:
        return False
    outer, names, contents = thing
    if not all_integers(outer) or not all_integers(names) or not isinstance(contents, (list, tuple)):
        return False
    if len(outer) != len(part[1]) or len(names) != len(part[1]) + len(part[2]):
        return False
    cells = list(dict.fromkeys([*outer, *names]))
    if cells != list(range(len(cells))) or len(contents) != len(cells):
        return False
    values = []
    for pair in contents:
        if not isinstance(pair, (list, tuple)) or len(pair) != 2:
            return False
        for content in pair:
            if not isinstance(content, (list, tuple)) or len(content) != 2 or content[0] not in ("n", "v"):
                return False
            if type(content[1]) is not int or content[0] == "v" and content[1] < 0:
                return False
            if content[0] == "v" and content[1] >= many and content[1] not in values:
                values.append(content[1])
    return values == list(range(many, many + len(values)))
