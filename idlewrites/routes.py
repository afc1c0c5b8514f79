"""Where the runs of a program go from deed to deed, whatever the contents of their cells are.

A point is a pair (place, ways): the place of the deed that is done next, and the ways that wait, the
outermost first: each is the way of the BODY of a last in whose THEN that deed stands. When the body
of a part is done, place is that of the part, and ways has one item, the way of the body.
"""

from idlewrites.programs import deeds_by_place

ON = ("on",)
LEAVE = ("leave",)
STOP = ("stop",)

# What kind of answer a deed takes.
TAKES = {"ask": "integer", "skip": "integer", "if": "truth", "loop": "truth"}


class Routes:
    """Where the runs of a program go; the deed at a place is found without a check."""

    def __init__(self, parts):
        self._deeds = deeds_by_place(parts)
        self._known = {}

    def deed(self, place):
        """Return the deed at a place."""
        return self._deeds[place]

    def start(self, index):
        """Return the first point of the part with this index."""
        return self._first((index,), ())

    def onward(self, point, answer):
        """Return the point behind a deed that takes this answer, if any; the deed is no call."""
        place, ways = point
        # True and 1 are one key.
        key = (place, ways, answer is True)
        if key not in self._known:
            self._known[key] = self._behind_deed(point, answer)
        return self._known[key]

    def behind_call(self, point, way):
        """Return the point behind a call when the body of the called part goes out by this way."""
        return self._behind(point, ON if way == LEAVE else way)

    def _behind_deed(self, point, answer):
        """Do as onward, but find the point anew."""
        place, ways = point
        deed = self._deeds[place]
        word = deed[0]
        if word == "if":
            return self._first(place + (0 if answer else 1,), ways)
        if word in ("try", "last") or word == "loop" and answer:
            return self._first(place + (0,), ways)
        if word == "fail":
            return self._behind(point, ("fault", deed[1]))
        if word == "leave":
            return self._behind(point, LEAVE)
        if word == "stop":
            return self._behind(point, STOP)
        return self._behind(point, ON)

    def _first(self, place, ways):
        """Return the point of the first deed of the list at a place, or the one behind an empty list."""
        return self._behind((place + (-1,), ways), ON)

    def _behind(self, point, way):
        """Return the point behind a deed that goes on or out by a way."""
        place, ways = point
        while True:
            after = place[:-1] + (place[-1] + 1,)
            if way == ON and after in self._deeds:
                return after, ways
            home = place[:-1]
            if len(home) == 1:
                return home, (way,)
            # The list with the number home[-1] of the deed at this place goes by the way.
            place = home[:-1]
            deed = self._deeds[place]
            if deed[0] == "loop" and way == ON:
                return place, ways
            if deed[0] == "loop" and way == STOP:
                way = ON
            elif deed[0] == "try" and home[-1] == 0 and way == ("fault", deed[2]):
                place, way = place + (1, -1), ON
            elif deed[0] == "last" and home[-1] == 0:
                place, ways, way = place + (1, -1), ways + (way,), ON
            elif deed[0] == "last":
                way = ways[-1] if way == ON else way
                ways = ways[:-1]
