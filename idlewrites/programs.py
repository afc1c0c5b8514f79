"""Programs, as data."""

from idlewrites.checking import checked_parts
from idlewrites.errors import NoPlace, NoWrite
from idlewrites.kinds import as_place, is_list
from idlewrites.lots import Lot
from idlewrites.reading import parts_of
from idlewrites.routes import Routes
from idlewrites.shapes import STRUCK, deeds_by_place, numbered, struck_deeds
from idlewrites.writing import text_of


class Program:
    """A program of one part or more, of which the last is main. No method changes it."""

    def __init__(self, parts):
        self._parts = checked_parts(parts)
        self._deeds = deeds_by_place(self._parts)
        self._routes = Routes(self._parts, self._deeds)

    @classmethod
    def read(cls, text):
        """Return the program with this text; raise BadText, then BadProgram."""
        return cls(parts_of(text))

    def parts(self):
        """Return the parts, tuples throughout."""
        return self._parts

    def writes(self):
        """Return the ascending list of the places of all writes."""
        return [place for place, deed in self._deeds.items() if deed[0] in STRUCK]

    def handed(self):
        """Return the handed names of main."""
        return self._parts[-1][1]

    def routes(self):
        """Return where the runs of the program go."""
        return self._routes

    def struck(self, lot):
        """Return the program in which all writes of a lot are struck; raise NoWrite."""
        chosen = self._chosen(lot)
        parts = [
            (name, handed, own, struck_deeds(place, body, chosen))
            for place, (name, handed, own, body) in numbered((), self._parts)
        ]
        return Program(parts)

    def text(self):
        """Return the program as a text."""
        return text_of(self._parts)

    def __sub__(self, other):
        return self.struck(other)

    def __len__(self):
        return len(self._deeds)

    def __getitem__(self, at):
        deed = self._deeds.get(as_place(at))
        if deed is None:
            raise NoPlace(at)
        return deed

    # Without it Python would ask for the items 0, 1 and so on, which are no places.
    def __iter__(self):
        raise TypeError("a program is not iterated over")

    def __eq__(self, other):
        return isinstance(other, Program) and self._parts == other._parts

    def _chosen(self, lot):
        """Return a dict with the places of a lot, all of which are writes."""
        if not isinstance(lot, Lot) and not is_list(lot):
            raise NoWrite(lot)
        things = lot.places if isinstance(lot, Lot) else lot
        chosen = {}
        for thing in things:
            place = as_place(thing)
            deed = self._deeds.get(place)
            if deed is None or deed[0] not in STRUCK:
                raise NoWrite(thing)
            chosen[place] = True
        return chosen
