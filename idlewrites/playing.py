"""Playing a program."""

from idlewrites.errors import BadNumbers, UnlikeNames
from idlewrites.kinds import is_integer, is_list
from idlewrites.meetings import marks_of
from idlewrites.running import Run


class Talk:
    """What a run tells: told, its way and what is left (both None if it waits), and answers used."""

    def __init__(self, told, way, left, used):
        self.told = told
        self.way = way
        self.left = left
        self.used = used

    def __eq__(self, other):
        return isinstance(other, Talk) and self.told == other.told and self.way == other.way and self.left == other.left


def play(program, meeting, numbers, answers):
    """Play a run and return its Talk; raise UnlikeNames, BadNumbers or BadAnswer."""
    cells = cells_of(program, meeting, numbers)
    run = run_from(program, meeting, cells, answers)
    run.go()
    if run.waits:
        return Talk(tuple(run.told), None, None, run.used)
    way = run.way if run.way[0] == "fault" else ("end",)
    return Talk(tuple(run.told), way, tuple([cell[0] for cell in cells]), run.used)


def deeds(program, meeting, numbers, answers):
    """Yield the place of each deed of a run when it is begun; raise the errors of play."""
    run = run_from(program, meeting, cells_of(program, meeting, numbers), answers)
    while run.goes_on():
        yield run.stands_at().place
        run.step()


def cells_of(program, meeting, numbers):
    """Return a cell for each block of a meeting, with its number; raise UnlikeNames or BadNumbers."""
    if sorted(set(program.handed())) != list(meeting.names):
        raise UnlikeNames()
    if not is_list(numbers) or len(numbers) != len(meeting):
        raise BadNumbers()
    if not all([is_integer(number) for number in numbers]):
        raise BadNumbers()
    return [[number] for number in numbers]


def run_from(program, meeting, cells, answers):
    """Return a run that begins with a cell for each block of a meeting."""
    return Run(program, [cells[mark] for mark in marks_of(program.handed(), meeting)], answers)
