"""Choosing lots of writes that can be struck."""

from idlewrites.choices import Choice
from idlewrites.errors import TooMany
from idlewrites.judging import alike
from idlewrites.keeping import kept_meetings
from idlewrites.lots import Lot
from idlewrites.skeletons import Skeleton
from idlewrites.sweeping import Sweep

# The most writes of a program whose lots are all looked at.
MOST_WRITES = 7

# How many lots are asked for at once.
MANY_LOTS = 2000


def is_free(program, lot, promises=()):
    """Tell whether a lot is free under promises; raise NoWrite or BadPromise."""
    return alike(program, program.struck(lot), promises)


def greatest_lots(program, promises=()):
    """Return the list of the free lots that lie in no greater one; raise TooMany or BadPromise."""
    writes = program.writes()
    if len(writes) > MOST_WRITES:
        raise TooMany(len(writes))
    greatest = []
    for places in free_ones(program, all_lots(writes), promises):
        lot = Lot(places)
        # Greater lots come first.
        if not any([lot <= other for other in greatest]):
            greatest.append(lot)
    return greatest


def bars(program, promises=()):
    """Return the ascending list of the pairs of writes that are free alone, but not together."""
    return pairs_of(program, promises, (True, True, False))


def goes_along(program, promises=()):
    """Return the ascending list of the pairs of writes that are free together, but neither alone."""
    return pairs_of(program, promises, (False, False, True))


def spared(program, promises=()):
    """Return the program in which the first one of its greatest lots is struck."""
    return program.struck(greatest_lots(program, promises)[0])


def all_lots(writes):
    """Return all tuples of some writes, those with more of them first, those with as many in their order."""
    lots = [()]
    for place in writes:
        lots = lots + [(*lot, place) for lot in lots]
    return [lot for _, lot in sorted(set([(-len(lot), lot) for lot in lots]))]


def pairs_of(program, promises, wanted):
    """Return the pairs (place, other) of writes for which this is so: place is free alone, so is other, so are both."""
    writes = program.writes()
    pairs = [(place, other) for at, place in enumerate(writes) for other in writes[at + 1:]]
    free = {lot: True for lot in free_ones(program, [(place,) for place in writes] + pairs, promises)}
    return [
        (place, other)
        for place, other in pairs
        if ((place,) in free, (other,) in free, (place, other) in free) == wanted
    ]


def free_ones(program, lots, promises):
    """Return those of some lots, tuples of places, that are free, in their order; raise BadPromise."""
    kept = kept_meetings(program.handed(), promises)
    skeleton = Skeleton(program)
    free = []
    for start in range(0, len(lots), MANY_LOTS):
        some = lots[start:start + MANY_LOTS]
        sweep = Sweep(skeleton, Choice(program, some))
        parted = 0
        for meeting in kept:
            parted = parted | sweep.found_at(program, meeting)
        free.extend([lot for number, lot in enumerate(some) if parted >> number & 1 == 0])
    return free
