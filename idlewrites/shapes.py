"""The table of deeds: of what kinds the items are that stand in a deed behind its word.

A "name" leads to a cell, a "word" is that of a fault, a "list" is one of deeds, and "names" is a
list of names. Other files ask for these kinds by the same strings.
"""

SHAPES = {
    "put": ("name", "number"),
    "ask": ("name",),
    "copy": ("name", "name"),
    "rest": (),
    "skip": (),
    "point": ("name", "name"),
    "fresh": ("name",),
    "tell": ("name",),
    "call": ("part", "names"),
    "if": ("list", "list"),
    "loop": ("list",),
    "fail": ("word",),
    "try": ("list", "word", "list"),
    "last": ("list", "list"),
    "leave": (),
    "stop": (),
}

# Each write, and the deed that is put in its place when it is struck.
STRUCK = {
    "put": ("rest",),
    "ask": ("skip",),
    "copy": ("rest",),
}


def lists_of(deed):
    """Return the lists of deeds that stand in a deed, in their order."""
    return [item for kind, item in zip(SHAPES[deed[0]], deed[1:]) if kind == "list"]


def with_lists(deed, lists):
    """Return a deed as a tuple, with other lists of deeds in it, in their order."""
    items = [deed[0]]
    number = 0
    for kind, item in zip(SHAPES[deed[0]], deed[1:]):
        if kind == "list":
            items.append(lists[number])
            number += 1
        else:
            items.append(item)
    return tuple(items)


def numbered(place, things):
    """Return the pairs (place, thing) of the things that stand side by side at a place, in their order."""
    return [(place + (index,), thing) for index, thing in enumerate(things)]


def placed_deeds(place, body):
    """Return the pairs (place, deed) of a list at a place, and of all lists in it, ascending."""
    pairs = []
    for here, deed in numbered(place, body):
        pairs.append((here, deed))
        for there, inner in numbered(here, lists_of(deed)):
            pairs.extend(placed_deeds(there, inner))
    return pairs


def deeds_by_place(parts):
    """Return the deeds at all depths by their places, ascending."""
    found = {}
    for place, part in numbered((), parts):
        for here, deed in placed_deeds(place, part[3]):
            found[here] = deed
    return found


def lists_by_place(parts):
    """Return the lists of deeds by their places: the bodies of the parts and the lists of all deeds."""
    found = {}
    for place, part in numbered((), parts):
        found[place] = part[3]
        for here, deed in placed_deeds(place, part[3]):
            for there, inner in numbered(here, lists_of(deed)):
                found[there] = inner
    return found


def struck_deeds(place, body, chosen):
    """Return a list at a place as a tuple in which the writes at the chosen places are struck."""
    struck = []
    for here, deed in numbered(place, body):
        if here in chosen:
            struck.append(STRUCK[deed[0]])
        else:
            lists = [struck_deeds(there, inner, chosen) for there, inner in numbered(here, lists_of(deed))]
            struck.append(with_lists(deed, lists))
    return tuple(struck)
