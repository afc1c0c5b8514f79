"""Promises under which two programs are alike."""

from idlewrites.bones import check_bones
from idlewrites.judging import good_meetings, parting_among, tracer_of
from idlewrites.keeping import check_promises, keeps, kept_meetings
from idlewrites.meetings import meetings


def least_promises(one, other):
    """Return the list of all least sets of promises under which two programs are alike; raise UnlikeBones."""
    good = {meeting.code: True for meeting in good_meetings(one, other)}
    every = meetings(one.handed())
    bad = mask_of([meeting.code not in good for meeting in every])
    masks = {}
    for promise in all_promises(one.handed()):
        masks[promise] = mask_of([keeps(meeting, promise) for meeting in every])
    return least_sets(masks, mask_of([True for _ in every]), bad)


def breaks(one, other, promises):
    """Return what parting returns for all promises but one, for each of them; raise UnlikeBones or BadPromise."""
    check_bones(one, other)
    names = one.handed()
    check_promises(names, promises)
    tracer = tracer_of(one, other)
    partings = []
    for index in range(len(promises)):
        others = [*promises[:index], *promises[index + 1:]]
        partings.append(parting_among(one, other, tracer, kept_meetings(names, others)))
    return partings


def all_promises(names):
    """Return the ascending list of all promises about some names."""
    ascending = sorted(set(names))
    pairs = [(name, other) for at, name in enumerate(ascending) for other in ascending[at + 1:]]
    return [(word, *pair) for word in ("always", "never") for pair in pairs]


def mask_of(truths):
    """Return the integer that has the bit k if the truth number k is True."""
    return sum([1 << number for number, truth in enumerate(truths) if truth])


def least_sets(masks, every, bad):
    """Return the least sets of promises that only good meetings keep, and at least one.

    masks has the meetings that keep each promise, ascending by promises; every and bad those that there
    are and those that are not good.
    """
    least = []
    level = [((), every)]
    while len(level) > 0:
        # Each set comes from its first promises alone, so those of a level are ascending, too.
        longer = []
        for chosen, kept in level:
            if kept & bad == 0:
                if is_least(chosen, masks, every, bad):
                    least.append(chosen)
                continue
            longer.extend(extended(chosen, kept, masks))
        level = longer
    return least


def extended(chosen, kept, masks):
    """Return the sets with one promise more, behind those of a set, that some meetings keep, but fewer."""
    longer = []
    for promise, mask in masks.items():
        if (len(chosen) == 0 or promise > chosen[-1]) and kept & mask not in (0, kept):
            longer.append(((*chosen, promise), kept & mask))
    return longer


def is_least(chosen, masks, every, bad):
    """Tell whether some bad meeting keeps all promises of a set but one, whichever it is."""
    for left_out in chosen:
        kept = every
        for promise in chosen:
            if promise != left_out:
                kept = kept & masks[promise]
        if kept & bad == 0:
            return False
    return True
