"""Promises, and the meetings that keep them."""

from idlewrites.errors import BadPromise
from idlewrites.kinds import is_list
from idlewrites.meetings import meetings


def check_promises(names, things):
    """Raise BadPromise with the index of the first thing that is no promise about two of the names."""
    if not is_list(things):
        raise BadPromise(0)
    for index, thing in enumerate(things):
        if not is_promise(names, thing):
            raise BadPromise(index)


def is_promise(names, thing):
    """Tell whether a thing is a promise about two of the names."""
    if not is_list(thing) or len(thing) != 3:
        return False
    word, name, other = thing
    if word not in ("always", "never") or name not in names or other not in names:
        return False
    return name < other


def keeps(meeting, promise):
    """Tell whether a meeting keeps a promise."""
    word, name, other = promise
    return meeting.one(name, other) == (word == "always")


def kept_meetings(names, promises):
    """Return the meetings of the names that keep all promises, by ascending codes; raise BadPromise."""
    check_promises(names, promises)
    return [meeting for meeting in meetings(names) if all([keeps(meeting, promise) for promise in promises])]
