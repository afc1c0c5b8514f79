"""Second tellings of sections 8 to 10, slow and plain: free lots, least promises, numbers that come out."""

import itertools

from tests.samples import walked
from tests.second import all_blocks, keeps_all, slow_parting, slow_play, slow_run

WRITES = ("put", "ask", "copy")
LISTS = {"if": (1, 2), "loop": (1,), "try": (1, 3), "last": (1, 2)}


def writes_of(parts):
    return [place for place, deed in walked(parts) if deed[0] in WRITES]


def changed(parts, change):
    """The parts with `change(place, deed)`, a list of deeds, in the place of each write."""

    def walk(place, deeds):
        found = []
        for index, deed in enumerate(deeds):
            here = place + (index,)
            if deed[0] in WRITES:
                found.extend(change(here, deed))
                continue
            items = list(deed)
            for number, at in enumerate(LISTS.get(deed[0], ())):
                items[at] = walk(here + (number,), deed[at])
            found.append(tuple(items))
        return tuple(found)

    return tuple((*part[:3], walk((index,), part[3])) for index, part in enumerate(parts))


def struck_parts(parts, lot):
    """The parts with the writes of a lot struck."""
    return changed(parts, lambda place, deed: [deed if place not in lot else ("skip",) if deed[0] == "ask" else ("rest",)])


def slow_free(parts, lot, promises=(), most=20000):
    return slow_parting(parts, struck_parts(parts, lot), promises, most) is None


def lots_of(writes):
    """All tuples of some writes."""
    return [lot for many in range(len(writes) + 1) for lot in itertools.combinations(writes, many)]


def greatest_of(free):
    """Those of some lots that lie in no greater one of them, in the document's order."""
    greatest = [lot for lot in free if not any(set(lot) < set(other) for other in free)]
    return sorted(greatest, key=lambda lot: (-len(lot), lot))


def pairs_by(free, writes):
    """What bars and goes_along tell, if `free` tells of lots."""
    bars, along = [], []
    for pair in itertools.combinations(writes, 2):
        alone = [free((place,)) for place in pair]
        if all(alone) and not free(pair):
            bars.append(pair)
        if not any(alone) and free(pair):
            along.append(pair)
    return bars, along


def slow_least(names, good):
    """The least sets of promises, searched through all sets; good are the blocks of the good meetings."""
    pairs = list(itertools.combinations(sorted(names), 2))
    promises = [(word, *pair) for word in ("always", "never") for pair in pairs]
    every = all_blocks(names)
    keepers = {promise: {blocks for blocks in every if keeps_all(blocks, [promise])} for promise in promises}
    right = []
    for many in range(len(promises) + 1):
        for chosen in itertools.combinations(promises, many):
            kept = set(every).intersection(*(keepers[promise] for promise in chosen))
            if kept and kept <= set(good) and not any(set(other) <= set(chosen) for other in right):
                right.append(chosen)
    return sorted(right, key=lambda chosen: (len(chosen), chosen))


def marked(parts, place, mark):
    """The parts in which the write at a place writes `mark`, and all other puts and asks write 0.

    Of two such programs with unlike marks, that part is unlike which has passed the write.
    """

    def change(here, deed):
        put = ("put", deed[1], mark if here == place else 0)
        if deed[0] == "ask":
            return [("skip",), put]
        return [deed if deed[0] == "copy" and here != place else put]

    return changed(parts, change)


def slow_seen(parts, place, promises=(), most=20000):
    """None, or the tuple (blocks, numbers, answers) of the least run in which the number of a write comes out."""
    found = slow_parting(marked(parts, place, 1), marked(parts, place, 2), promises, most)
    return found and (found[0], *slow_run(parts, (), *found))


def passed_told(parts, blocks, numbers, answers, place):
    """Whether a content that has passed a write is told or left in a run: whether it is unlike with unlike marks."""
    runs = [slow_play(marked(parts, place, mark), blocks, numbers, answers) for mark in (-1, -2)]
    return (runs[0].told, runs[0].left) != (runs[1].told, runs[1].left)

