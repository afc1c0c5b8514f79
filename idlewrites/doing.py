"""Doing lists of deeds for a paper.

A key is a pair (place, standing), an end a pair (way, standing), with standings in numbers.
"""

from idlewrites.effects import ASKED
from idlewrites.routes import LEAVE, ON, STOP
from idlewrites.shapes import STRUCK, lists_by_place, numbered
from idlewrites.skeletons import ZERO, name_numbers, renumbered
from idlewrites.standings import contents_of, count_of_values, named_back, numbered_onward, standing_of_part, tidied


class Doing:
    """Does lists of deeds, in two programs of the same bones, by a table.

    The table has for each key a dict of its ends. If it grows, a key that is asked for and not there
    is put into it with what its list comes to. `right` is False when a key was asked for and not
    there, or two unlike contents were told.
    """

    def __init__(self, one, other, effects, table, grows):
        self.table = table
        self.right = True
        self._grows = grows
        self._parts = one.parts()
        self._indexes = one.routes().indexes
        self._names = [name_numbers(part) for part in self._parts]
        self._lists = lists_by_place(self._parts)
        self._effects = (effects.of_writes(one), effects.of_writes(other))
        self._called_ends = {}

    def ends(self, key):
        """Return the ends under a key."""
        if key not in self.table:
            if not self._grows:
                self.right = False
                return {}
            self.table[key] = self.comes_to(key)
        return self.table[key]

    def comes_to(self, key):
        """Return the ends to which the list of a key comes."""
        place, start = key
        many = count_of_values(start[2])
        reached = [start]
        ends = {}
        for here, deed in numbered(place, self._lists[place]):
            behind = {}
            for standing in reached:
                for way, after in self._done(here, deed, standing, many):
                    if way == ON:
                        behind[after] = True
                    else:
                        ends[(way, after)] = True
            reached = list(behind)
        for standing in reached:
            ends[(ON, standing)] = True
        return ends

    def _done(self, place, deed, standing, many):
        """Return the ends to which a deed comes; values from many on are new in this list."""
        word = deed[0]
        if word == "if":
            return self._listed(place + (0,), standing, many) + self._listed(place + (1,), standing, many)
        if word == "loop":
            return self._looped(place, standing, many)
        if word == "try":
            return self._tried(place, deed, standing, many)
        if word == "last":
            return self._lasted(place, standing, many)
        if word == "call":
            return self._called(place, deed, standing, many)
        if word == "fail":
            return [(("fault", deed[1]), standing)]
        if word in ("leave", "stop"):
            return [((word,), standing)]
        return [(ON, self._changed(place, deed, standing, many))]

    def _listed(self, place, standing, many):
        """Return the ends to which a list inside of a deed comes."""
        outer, names, contents = standing
        plain, olds = numbered_onward(contents, 0)
        new = next_value(contents, many)
        ends = []
        for way, (_, after, inside) in self.ends((place, (outer, names, plain))):
            behind, _ = numbered_onward(named_back(inside, olds, new), many)
            ends.append((way, (outer, after, behind)))
        return ends

    def _looped(self, place, standing, many):
        """Return the ends to which a loop comes."""
        reached = {standing: True}
        waiting = [standing]
        ends = []
        while len(waiting) > 0:
            here = waiting.pop()
            ends.append((ON, here))
            for way, behind in self._listed(place + (0,), here, many):
                if way == STOP:
                    ends.append((ON, behind))
                elif way != ON:
                    ends.append((way, behind))
                elif behind not in reached:
                    reached[behind] = True
                    waiting.append(behind)
        return ends

    def _tried(self, place, deed, standing, many):
        """Return the ends to which a try comes."""
        ends = []
        for way, behind in self._listed(place + (0,), standing, many):
            if way == ("fault", deed[2]):
                ends.extend(self._listed(place + (1,), behind, many))
            else:
                ends.append((way, behind))
        return ends

    def _lasted(self, place, standing, many):
        """Return the ends to which a last comes."""
        ends = []
        for way, between in self._listed(place + (0,), standing, many):
            for later, behind in self._listed(place + (1,), between, many):
                ends.append((way if later == ON else later, behind))
        return ends

    def _called(self, place, deed, standing, many):
        """Return the ends to which a call comes."""
        outer, names, contents = standing
        numbers = self._names[place[0]]
        index = self._indexes[deed[1]]
        pattern, cells = renumbered([names[numbers[name]] for name in deed[2]], 0)
        handed, olds = numbered_onward(contents_of(cells, contents), 0)
        new = next_value(contents, many)
        ends = []
        for way, inside in self._ends_of_call(index, standing_of_part(pattern, handed, len(self._parts[index][2]))):
            behind = list(contents)
            for number, content in enumerate(named_back(inside, olds, new)):
                behind[2 * cells[number // 2] + number % 2] = content
            ends.append((way, (outer, names, numbered_onward(behind, many)[0])))
        return ends

    def _ends_of_call(self, index, standing):
        """Return the pairs (way, contents of the handed cells) to which a call of a part comes."""
        key = ((index,), standing)
        if key not in self._called_ends:
            many = 2 * len(set(standing[0]))
            found = {}
            for way, (_, _, contents) in self.ends(key):
                found[(ON if way == LEAVE else way, contents[:many])] = True
            self._called_ends[key] = list(found)
        return list(self._called_ends[key])

    def _changed(self, place, deed, standing, many):
        """Return the standing behind a deed that takes no list and goes on."""
        outer, names, contents = standing
        word = deed[0]
        numbers = self._names[place[0]]
        if word in STRUCK or word in ("rest", "skip"):
            return outer, names, numbered_onward(self._written(place, names, contents, many), many)[0]
        if word == "tell":
            cell = names[numbers[deed[1]]]
            if contents[2 * cell] != contents[2 * cell + 1]:
                self.right = False
            return standing
        at = numbers[deed[1]]
        if word == "fresh":
            names = names[:at] + (len(contents) // 2,) + names[at + 1:]
            contents = contents + (ZERO, ZERO)
        else:
            names = names[:at] + (names[numbers[deed[2]]],) + names[at + 1:]
        outer, names, contents = tidied(outer, names, contents)
        return outer, names, numbered_onward(contents, many)[0]

    def _written(self, place, names, contents, many):
        """Return the contents behind a write."""
        behind = list(contents)
        for side in (0, 1):
            effect = self._effects[side].get(place)
            if effect is not None:
                name, other, spot = effect
                if other is not None:
                    spot = contents[2 * names[other] + side]
                elif spot == ASKED:
                    spot = next_value(contents, many)
                behind[2 * names[name] + side] = spot
        return behind


def next_value(contents, many):
    """Return the number of a value that is none of the first many, and does not come in the contents."""
    highest = max([int(content) for content in contents], default=-1)
    return max(int(highest) + 1, many)
