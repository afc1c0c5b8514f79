"""Lots: sets of places."""

from idlewrites.errors import BadLot
from idlewrites.kinds import as_place, is_list


class Lot:
    """A set of places; its attribute places is their ascending tuple."""

    def __init__(self, places):
        self.places = ascending_places(places)
        self._known = {place: True for place in self.places}

    def __len__(self):
        return len(self.places)

    def __contains__(self, thing):
        return as_place(thing) in self._known

    def __eq__(self, other):
        return isinstance(other, Lot) and self.places == other.places

    def __or__(self, other):
        if not isinstance(other, Lot):
            return NotImplemented
        return Lot([*self.places, *other.places])

    def __and__(self, other):
        if not isinstance(other, Lot):
            return NotImplemented
        return Lot([place for place in self.places if place in other])

    def __sub__(self, other):
        if not isinstance(other, Lot):
            return NotImplemented
        return Lot([place for place in self.places if place not in other])

    def __xor__(self, other):
        if not isinstance(other, Lot):
            return NotImplemented
        alone = [place for place in self.places if place not in other]
        return Lot(alone + [place for place in other.places if place not in self])

    def __le__(self, other):
        if not isinstance(other, Lot):
            return NotImplemented
        return self._lies_in(other)

    def __lt__(self, other):
        if not isinstance(other, Lot):
            return NotImplemented
        return self._lies_in(other) and len(self) < len(other)

    def __ge__(self, other):
        if not isinstance(other, Lot):
            return NotImplemented
        return other._lies_in(self)

    def __gt__(self, other):
        if not isinstance(other, Lot):
            return NotImplemented
        return other._lies_in(self) and len(other) < len(self)

    def _lies_in(self, other):
        """Tell whether each place is one of another lot, too."""
        return all([place in other for place in self.places])


def ascending_places(things):
    """Return places as an ascending tuple without doubles; raise BadLot if one is none."""
    if not is_list(things):
        raise BadLot(0)
    places = [as_place(thing) for thing in things]
    for index, place in enumerate(places):
        if place is None:
            raise BadLot(index)
    return tuple(sorted(set(places)))
