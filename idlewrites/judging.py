"""Judging whether two programs of the same bones are alike."""

from idlewrites.bones import check_bones
from idlewrites.finding import greatest_put, least_row_at, least_run, run_along
from idlewrites.keeping import kept_meetings
from idlewrites.pairs import Pair
from idlewrites.playing import play
from idlewrites.skeletons import Skeleton
from idlewrites.tracing import Tracer


class Parting:
    """A run in which the talks of two programs differ, and the pair of these talks."""

    def __init__(self, meeting, numbers, answers, talks):
        self.meeting = meeting
        self.numbers = numbers
        self.answers = answers
        self.talks = talks


def alike(one, other, promises=()):
    """Tell whether two programs are alike under promises; raise UnlikeBones or BadPromise."""
    check_bones(one, other)
    kept = kept_meetings(one.handed(), promises)
    tracer = tracer_of(one, other)
    for meeting in kept:
        if least_row_at(tracer, one, meeting) is not None:
            return False
    return True


def good_meetings(one, other):
    """Return the list of the meetings at which two programs are alike, by ascending codes."""
    check_bones(one, other)
    tracer = tracer_of(one, other)
    return [meeting for meeting in kept_meetings(one.handed(), ()) if least_row_at(tracer, one, meeting) is None]


def parting(one, other, promises=()):
    """Return None if two programs are alike under promises, otherwise the least Parting."""
    check_bones(one, other)
    kept = kept_meetings(one.handed(), promises)
    return parting_among(one, other, tracer_of(one, other), kept)


def parting_among(one, other, tracer, kept):
    """Return the least Parting at the kept meetings, or None; the tracer is that of the two programs."""
    run = least_run(tracer, one, kept)
    if run is None:
        return None
    meeting, row = run
    greatest = max(int(greatest_put(one)), int(greatest_put(other)))
    numbers, answers = run_along(one, meeting, row, greatest)
    talks = (play(one, meeting, numbers, answers), play(other, meeting, numbers, answers))
    return Parting(meeting, numbers, answers, talks)


def tracer_of(one, other):
    """Return a tracer that asks where two programs of the same bones tell or leave unlike contents."""
    return Tracer(Skeleton(one), Pair(one, other))
