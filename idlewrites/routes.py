"""Where the runs of a program go from deed to deed, whatever the contents of their cells are."""

ON = ("on",)
LEAVE = ("leave",)
STOP = ("stop",)

# What kind of answer a deed takes.
TAKES = {"ask": "integer", "skip": "integer", "if": "truth", "loop": "truth"}


class Point:
    """Where a run stands in a part: the place of the deed that is done next, and this deed.

    `takes` is the kind of answer that the deed takes, or None. `ways` are the ways that wait, the
    outermost first: each is the way of the BODY of a last in whose THEN the deed stands. When the
    body of the part is done, `place` is that of the part, `deed` is None, and `ways` has one item,
    the way of the body.
    """

    def __init__(self, place, ways, deed):
        self.place = place
        self.ways = ways
        self.deed = deed
        self.takes = None if deed is None else TAKES.get(deed[0])
        # The points behind it that have been asked for: by the answer True, or by the way of a called part.
        self.behind = {}


class Routes:
    """Where the runs of a program go.

    There is one Point for each place and ways. Points are made when they are asked for, and kept: many
    runs of one program go the same ways.
    """

    def __init__(self, parts, deeds):
        self.indexes = {part[0]: index for index, part in enumerate(parts)}
        self._deeds = deeds
        self._firsts = {}
        self._points = {}

    def start(self, index):
        """Return the first point of the part with this index."""
        if index not in self._firsts:
            self._firsts[index] = self._first((index,), ())
        return self._firsts[index]

    def onward(self, point, answer):
        """Return the point behind a deed that takes this answer, if any; the deed is no call."""
        truth = answer is True
        if truth not in point.behind:
            point.behind[truth] = self._behind_deed(point, truth)
        return point.behind[truth]

    def behind_call(self, point, way):
        """Return the point behind a call when the body of the called part goes out by this way."""
        if way not in point.behind:
            point.behind[way] = self._behind(point.place, point.ways, ON if way == LEAVE else way)
        return point.behind[way]

    def _behind_deed(self, point, truth):
        """Do as onward, but find the point anew."""
        place = point.place
        word = point.deed[0]
        if word == "if":
            return self._first(place + (0 if truth else 1,), point.ways)
        if word in ("try", "last") or word == "loop" and truth:
            return self._first(place + (0,), point.ways)
        way = ON
        if word == "fail":
            way = ("fault", point.deed[1])
        elif word == "leave":
            way = LEAVE
        elif word == "stop":
            way = STOP
        return self._behind(place, point.ways, way)

    def _first(self, place, ways):
        """Return the point of the first deed of the list at a place, or the one behind an empty list."""
        return self._behind(place + (-1,), ways, ON)

    def _behind(self, place, ways, way):
        """Return the point behind a deed that goes on or out by a way."""
        while True:
            after = place[:-1] + (place[-1] + 1,)
            if way == ON and after in self._deeds:
                return self._point_at(after, ways)
            home = place[:-1]
            if len(home) == 1:
                return self._point_at(home, (way,))
            # The list with the number home[-1] of the deed at this place goes by the way.
            place = home[:-1]
            deed = self._deeds[place]
            if deed[0] == "loop" and way == ON:
                return self._point_at(place, ways)
            if deed[0] == "loop" and way == STOP:
                way = ON
            elif deed[0] == "try" and home[-1] == 0 and way == ("fault", deed[2]):
                place, way = place + (1, -1), ON
            elif deed[0] == "last" and home[-1] == 0:
                place, ways, way = place + (1, -1), ways + (way,), ON
            elif deed[0] == "last":
                way = ways[-1] if way == ON else way
                ways = ways[:-1]

    def _point_at(self, place, ways):
        """Return the point at a place with these ways that wait."""
        key = (place, ways)
        if key not in self._points:
            self._points[key] = Point(place, ways, self._deeds.get(place))
        return self._points[key]
