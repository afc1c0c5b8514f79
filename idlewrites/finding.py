"""The least run for which a Tracer asks: its meeting, its numbers and its answers."""

from idlewrites.meetings import marks_of
from idlewrites.playing import cells_of, run_from
from idlewrites.rows import digits_of


def least_row_at(tracer, program, meeting):
    """Return the least row with which a tracer finds what it asks for at a meeting, or None."""
    return tracer.least_row(len(program.parts()) - 1, marks_of(program.handed(), meeting))


def least_run(tracer, program, kept):
    """Return the pair (meeting, row) of the least row at some of the kept meetings, or None.

    Of meetings with the same row it is the first one.
    """
    best = None
    for meeting in kept:
        row = least_row_at(tracer, program, meeting)
        if row is not None and (best is None or row < best[1]):
            best = (meeting, row)
    return best


def run_along(program, meeting, row, greatest):
    """Return the numbers and the answers of a run with a row, as tuples.

    All integers among them go on from the greatest one.
    """
    next_one = greatest + 1
    numbers = tuple(range(next_one, next_one + len(meeting)))
    next_one += len(meeting)
    run = run_from(program, meeting, cells_of(program, meeting, numbers), ())
    answers = []
    for digit in digits_of(row):
        run.go()
        if run.stands_at().takes == "truth":
            answers.append(digit == "1")
        else:
            answers.append(next_one)
            next_one += 1
        run.give(answers[-1])
    return numbers, tuple(answers)


def greatest_put(program):
    """Return the greatest absolute value of all integers in the put deeds of a program, or 0."""
    written = [program[place] for place in program.writes()]
    return max([int(abs(deed[2])) for deed in written if deed[0] == "put"], default=0)
