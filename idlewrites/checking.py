"""Checks of the parts that are passed for a program."""

from idlewrites.errors import BadProgram
from idlewrites.kinds import are_names, is_integer, is_list, is_name
from idlewrites.shapes import SHAPES, lists_of, numbered, with_lists


class Scope:
    """What the deeds of one part may name.

    names are the part's own names and those that it is handed; counts tells, for each part that
    stands ahead of it, by its name, how many names that part is handed.
    """

    def __init__(self, names, counts):
        self.names = names
        self.counts = counts


def checked_parts(parts):
    """Return the parts of a program, tuples throughout; raise BadProgram if they make none."""
    if not is_list(parts) or len(parts) == 0:
        raise BadProgram((0,))
    checked = []
    counts = {}
    for place, part in numbered((), parts):
        if not is_part(part) or part[0] in counts:
            raise BadProgram(place)
        name, handed, own, body = part
        scope = Scope((*handed, *own), counts)
        checked.append((name, tuple(handed), tuple(own), checked_list(place, body, scope, False)))
        counts[name] = len(handed)
    return tuple(checked)


def is_part(thing):
    """Tell whether a thing has the form of a part, whatever stands in its body."""
    if not is_list(thing) or len(thing) != 4:
        return False
    name, handed, own, body = thing
    if not is_name(name) or not are_names(handed) or not are_names(own) or not is_list(body):
        return False
    names = [*handed, *own]
    return len(set(names)) == len(names)


def checked_list(place, things, scope, looped):
    """Return the list of deeds at a place as a tuple; looped tells whether a stop may stand in it."""
    return tuple([checked_deed(here, thing, scope, looped) for here, thing in numbered(place, things)])


def checked_deed(place, thing, scope, looped):
    """Return the deed at a place, tuples throughout; raise BadProgram if it or one in it is wrong."""
    if not is_deed(thing, scope, looped):
        raise BadProgram(place)
    word = thing[0]
    if word == "call":
        return (word, thing[1], tuple(thing[2]))
    inside = looped or word == "loop"
    lists = [checked_list(here, inner, scope, inside) for here, inner in numbered(place, lists_of(thing))]
    return with_lists(thing, lists)


def is_deed(thing, scope, looped):
    """Tell whether a thing is a deed that may stand there, whatever stands in its lists."""
    if not is_list(thing) or len(thing) == 0:
        return False
    word = thing[0]
    if not isinstance(word, str) or word not in SHAPES or len(thing) != 1 + len(SHAPES[word]):
        return False
    if word == "stop":
        return looped
    if word == "call":
        return is_call(thing[1], thing[2], scope)
    return all([fits(kind, item, scope) for kind, item in zip(SHAPES[word], thing[1:])])


def is_call(part, names, scope):
    """Tell whether a part may be called here, and be handed these names."""
    if not isinstance(part, str) or part not in scope.counts:
        return False
    if not is_list(names) or len(names) != scope.counts[part]:
        return False
    return all([name in scope.names for name in names])


def fits(kind, item, scope):
    """Tell whether an item of a deed is of the kind that the table asks for."""
    if kind == "name":
        return item in scope.names
    if kind == "number":
        return is_integer(item)
    if kind == "word":
        return is_name(item)
    return is_list(item)
