"""Seeing in which runs the numbers of writes come out."""

from idlewrites.errors import NoWrite
from idlewrites.finding import greatest_put, least_run, run_along
from idlewrites.keeping import kept_meetings
from idlewrites.kinds import as_place
from idlewrites.playing import play
from idlewrites.sights import Sighting, Sightings
from idlewrites.skeletons import Skeleton
from idlewrites.sweeping import Sweep
from idlewrites.tracing import Tracer


class Sight:
    """A run in which the number of a write comes out, and its talk."""

    def __init__(self, meeting, numbers, answers, talk):
        self.meeting = meeting
        self.numbers = numbers
        self.answers = answers
        self.talk = talk


def seen(program, place, promises=()):
    """Return None if the number of a write never comes out, otherwise the least Sight; raise NoWrite or BadPromise."""
    write = as_place(place)
    if write not in program.writes():
        raise NoWrite(place)
    kept = kept_meetings(program.handed(), promises)
    run = least_run(Tracer(Skeleton(program), Sighting(program, write)), program, kept)
    if run is None:
        return None
    meeting, row = run
    numbers, answers = run_along(program, meeting, row, greatest_put(program))
    return Sight(meeting, numbers, answers, play(program, meeting, numbers, answers))


def unseen(program, promises=()):
    """Return the ascending list of the writes whose numbers never come out; raise BadPromise."""
    kept = kept_meetings(program.handed(), promises)
    writes = program.writes()
    sweep = Sweep(Skeleton(program), Sightings(program, writes))
    found = 0
    for meeting in kept:
        found = found | sweep.found_at(program, meeting)
    return [place for number, place in enumerate(writes) if found >> number & 1 == 0]
