"""The form of papers: showing tables as papers, and reading papers as tables.

What is read may be any object; a function that reads returns None for what has not the form.
"""

from idlewrites.kinds import as_place, is_integer, is_list, is_name
from idlewrites.routes import LEAVE, ON, STOP
from idlewrites.shapes import lists_by_place
from idlewrites.skeletons import renumbered
from idlewrites.standings import count_of_values, numbered_onward


class Form:
    """The form of the papers for programs of the same bones; effects has the spots of integers."""

    def __init__(self, program, effects):
        self._parts = program.parts()
        self._lists = lists_by_place(self._parts)
        self._effects = effects
        # A great paper has many pairs of contents, but few unlike ones.
        self._pairs = {}

    def paper_of(self, table):
        """Return a table as a paper."""
        paper = {}
        for (place, standing), ends in table.items():
            listed = [(way, self._shown_standing(behind)) for way, behind in ends]
            paper[(place, self._shown_standing(standing))] = sorted(set(listed))
        return paper

    def table_of(self, thing):
        """Return a paper as a table, or None."""
        if not isinstance(thing, dict):
            return None
        table = {}
        for key, ends in thing.items():
            read_key = self._read_key(key)
            if read_key is None or not is_list(ends):
                return None
            outer, _, contents = read_key[1]
            many = count_of_values(contents)
            read_ends = [self._read_end(end, read_key[0], outer, many) for end in ends]
            if None in read_ends:
                return None
            table[read_key] = {end: True for end in read_ends}
        return table

    def _shown_standing(self, standing):
        """Return a standing as it stands in a paper."""
        outer, names, contents = standing
        return outer, names, tuple([self._shown_pair(pair) for pair in zip(contents[::2], contents[1::2])])

    def _shown_pair(self, pair):
        """Return the contents of a cell as they stand in a paper."""
        if pair not in self._pairs:
            one, other = pair
            self._pairs[pair] = (self._shown_content(one), self._shown_content(other))
        return self._pairs[pair]

    def _shown_content(self, content):
        """Return a content as it stands in a paper."""
        return ("v", content) if content >= 0 else ("n", self._effects.integer_at(content))

    def _read_key(self, thing):
        """Return a key with its standing in numbers."""
        if not is_list(thing) or len(thing) != 2:
            return None
        place = as_place(thing[0])
        if place not in self._lists:
            return None
        standing = self._read_standing(thing[1], place[0], 0)
        return None if standing is None else (place, standing)

    def _read_end(self, thing, place, outer, many):
        """Return an end under a key with this place, outer and so many values."""
        if not is_list(thing) or len(thing) != 2:
            return None
        way = read_way(thing[0])
        standing = self._read_standing(thing[1], place[0], many)
        if way is None or standing is None or standing[0] != outer:
            return None
        return way, standing

    def _read_standing(self, thing, index, many):
        """Return a standing of a part in which values from many on are numbered as they come."""
        if not is_list(thing) or len(thing) != 3:
            return None
        _, handed, own, _ = self._parts[index]
        outer = read_cells(thing[0], len(handed), ())
        names = None if outer is None else read_cells(thing[1], len(handed) + len(own), outer)
        contents = self._read_contents(thing[2])
        if names is None or contents is None or len(contents) != 2 * len(set(outer + names)):
            return None
        return (outer, names, contents) if numbered_onward(contents, many)[0] == contents else None

    def _read_contents(self, thing):
        """Return the contents of all cells in numbers."""
        if not is_list(thing) or not all([is_list(pair) and len(pair) == 2 for pair in thing]):
            return None
        contents = [self._read_content(item) for pair in thing for item in pair]
        return None if None in contents else tuple(contents)

    def _read_content(self, thing):
        """Return a content as a number."""
        if not is_list(thing) or len(thing) != 2 or not is_integer(thing[1]):
            return None
        if thing[0] == "n":
            return self._effects.spot_of(thing[1])
        return thing[1] if thing[0] == "v" and thing[1] >= 0 else None


def read_way(thing):
    """Return a way as a tuple."""
    if not is_list(thing):
        return None
    way = tuple(thing)
    if way in (ON, LEAVE, STOP) or len(way) == 2 and way[0] == "fault" and is_name(way[1]):
        return way
    return None


def read_cells(thing, many, ahead):
    """Return the numbers of the cells of so many names as a tuple; they go on from those ahead of them."""
    if not is_list(thing) or len(thing) != many or not all([is_integer(cell) for cell in thing]):
        return None
    cells = tuple(thing)
    return cells if renumbered(cells, len(set(ahead)))[0] == cells else None
