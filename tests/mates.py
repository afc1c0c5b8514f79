"""Pairs of programs of the same bones for the tests; all of it is the same in each run."""

import random

NAMES = ("a", "b", "c")
FAULTS = ("oops", "a")

# Names, parts and faults that are spelled like words of deeds and ways.
SPELLED = {
    "a": "skip", "b": "rest", "c": "put", "d": "on", "t": "leave", "u": "fault", "oops": "stop", "turn": "call",
    "main": "if", "x": "try", "y": "last", "z": "ask",
}


def judged_parts(chance, most_parts=3, room=14, handed=3, deepest=4):
    """The parts of some program with few names and many writes, tells and ways out."""
    parts = []
    counts = {}
    many = chance.randint(1, most_parts)
    for index in range(many):
        name = ("turn", "a", "main", "x", "y", "z")[index]
        cut = chance.choice([size for size in (0, 1, 2, 2, 2, 3, 3, 4) if size <= handed])
        names = (NAMES + ("d",))[:cut]
        own = ("t", "u")[:chance.choice((0, 0, 1, 1, 2))]
        left = [chance.randint(1, room)]
        body = some_list(chance, names + own, counts, left, 1, deepest, False)
        parts.append((name, names, own, body))
        counts[name] = len(names)
    return tuple(parts)


def some_list(chance, names, counts, left, depth, deepest, looped):
    found = []
    for _ in range(chance.randint(0, 2) if depth > 1 else chance.randint(2, 7)):
        if left[0] > 0:
            left[0] -= 1
            found.append(some_deed(chance, names, counts, left, depth, deepest, looped))
    return tuple(found)


def some_deed(chance, names, counts, left, depth, deepest, looped):
    # Ways out at the top of a body make all behind them idle, so they mostly stand deeper.
    words = ["skip"] + (["fail", "leave"] + ["stop"] * looped) * (2 if depth > 1 else chance.random() < 0.1)
    if names:
        words += ["put"] * 3 + ["copy"] * 5 + ["ask"] * 2 + ["tell", "point", "fresh"] + ["rest"]
    parts = [part for part, count in counts.items() if names or not count]
    if parts:
        words += ["call"] * 4
    if depth < deepest:
        words += ["if", "if", "loop", "loop", "try", "last"] * 2
    word = chance.choice(words)

    def inner(inside=looped):
        return some_list(chance, names, counts, left, depth + 1, deepest, inside)

    if word == "put":
        return word, chance.choice(names), chance.choice((0, 1, 1, -2))
    if word in ("copy", "point"):
        return word, chance.choice(names), chance.choice(names)
    if word in ("ask", "fresh", "tell"):
        return word, chance.choice(names)
    if word == "call":
        part = chance.choice(parts)
        return word, part, tuple(chance.choice(names) for _ in range(counts[part]))
    if word in ("if", "last"):
        return word, inner(), inner()
    if word == "loop":
        return word, inner(True)
    if word == "fail":
        return word, chance.choice(FAULTS)
    if word == "try":
        return word, inner(), chance.choice(FAULTS), inner()
    return (word,)


def mate_of(parts, chance, share):
    """The parts of a program of the same bones, in which some writes are other ones."""
    return tuple(
        (name, handed, own, changed_list(body, handed + own, chance, share)) for name, handed, own, body in parts
    )


def changed_list(deeds, names, chance, share):
    return tuple(changed_deed(deed, names, chance, share) for deed in deeds)


def changed_deed(deed, names, chance, share):
    word = deed[0]
    if word in ("put", "copy", "rest", "ask", "skip"):
        if chance.random() >= share:
            return deed
        if word in ("ask", "skip"):
            return chance.choice([("skip",)] + [("ask", name) for name in names])
        others = [("rest",), ("rest",)]
        if names:
            others.append(("put", chance.choice(names), chance.choice((0, 1, -2, 7))))
            others.append(("copy", chance.choice(names), chance.choice(names)))
        return chance.choice(others)
    lists = {"if": (1, 2), "loop": (1,), "try": (1, 3), "last": (1, 2)}.get(word, ())
    return tuple(changed_list(item, names, chance, share) if at in lists else item for at, item in enumerate(deed))


def respelled(parts):
    """The same parts with names that are spelled like words of deeds."""
    return tuple(
        (SPELLED[name], named(handed), named(own), tuple(respelled_deed(deed) for deed in body))
        for name, handed, own, body in parts
    )


def respelled_deed(deed):
    items = [deed[0]]
    for item in deed[1:]:
        if isinstance(item, str):
            items.append(SPELLED[item])
        elif isinstance(item, tuple):
            items.append(tuple(SPELLED[one] if isinstance(one, str) else respelled_deed(one) for one in item))
        else:
            items.append(item)
    return tuple(items)


def named(names):
    return tuple(SPELLED[name] for name in names)


def some_promises(chance, names):
    """A list of promises about some names."""
    pairs = [(name, other) for name in sorted(names) for other in sorted(names) if name < other]
    count = chance.choice((0, 0, 1, 1, 2, 3)) if pairs else 0
    return [(chance.choice(("always", "never")), *chance.choice(pairs)) for _ in range(count)]


def some_pairs(count, seed, **sizes):
    """Tuples (parts of the one, parts of the other, promises)."""
    for number in range(count):
        chance = random.Random(seed * 1000003 + number)
        parts = judged_parts(chance, **sizes)
        if number % 3 == 0:
            parts = respelled(parts)
        yield parts, mate_of(parts, chance, chance.choice((0.1, 0.25, 0.5))), some_promises(chance, parts[-1][1])
