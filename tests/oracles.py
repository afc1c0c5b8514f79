"""Second tellings of the document, for the tests: the first wrong place, the first bad line, the text."""

import re

NAME = re.compile(r"[a-z]{1,8}")
WORD = r"[a-z]{1,8}"
WORDS = rf"\(({WORD}( {WORD})*)?\)"
PART = re.compile(rf"part {WORD} {WORDS} {WORDS}")
PLAIN = re.compile(
    rf"put {WORD} (0|-?[1-9][0-9]*)|(ask|fresh|tell|fail) {WORD}|(copy|point) {WORD} {WORD}"
    rf"|rest|skip|leave|stop|call {WORD} {WORDS}"
)
BLOCKS = {"if": "else", "loop": "", "try": "catch", "last": "then"}
MIDDLE = re.compile(rf"else|then|catch {WORD}")


def first_bad_line(text):
    """The number of the first line that cannot stand, or None if all can and no more are needed."""
    lines = text.split("\n")
    # For each list that is open, from outside on, the word that must come behind it, if any.
    awaited = None
    for number, line in enumerate(lines, 1):
        core = line.lstrip(" ")
        depth, odd = divmod(len(line) - len(core), 2)
        if odd:
            return number
        if PART.fullmatch(core):
            if depth or any(awaited or ()):
                return number
            awaited = [""]
        elif MIDDLE.fullmatch(core):
            if awaited is None or len(awaited) <= depth or any(awaited[depth + 1:]):
                return number
            if awaited[depth] != core.split(" ")[0]:
                return number
            awaited[depth:] = [""]
        elif core in BLOCKS or PLAIN.fullmatch(core):
            if awaited is None or depth == 0 or len(awaited) < depth or any(awaited[depth:]):
                return number
            awaited[depth:] = [BLOCKS[core]] if core in BLOCKS else []
        else:
            return number
    return len(lines) + 1 if any(awaited) else None


def is_name(thing):
    return isinstance(thing, str) and NAME.fullmatch(thing) is not None


def is_list(thing):
    return isinstance(thing, (tuple, list))


def is_own(thing, names):
    return isinstance(thing, str) and thing in names


def first_wrong(parts):
    """The place with which BadProgram is to be raised, or None."""
    if not is_list(parts) or not len(parts):
        return (0,)
    wrong = []
    counts = {}
    for index, part in enumerate(parts):
        if not is_list(part) or len(part) != 4:
            return min(wrong + [(index,)])
        name, handed, own, body = part
        if not is_name(name) or name in counts or not is_list(handed) or not is_list(own) or not is_list(body):
            return min(wrong + [(index,)])
        names = list(handed) + list(own)
        if not all(is_name(one) for one in names) or len(set(names)) < len(names):
            return min(wrong + [(index,)])
        wrong += wrong_deeds((index,), body, names, counts, False)
        counts[name] = len(handed)
    return min(wrong, default=None)


def wrong_deeds(place, deeds, names, counts, looped):
    wrong = []
    for index, deed in enumerate(deeds):
        here = place + (index,)
        lists = deed_lists(deed, names, counts, looped)
        if lists is None:
            wrong.append(here)
        else:
            for number, inner in enumerate(lists):
                wrong += wrong_deeds(here + (number,), inner, names, counts, looped or deed[0] == "loop")
    return wrong


def deed_lists(deed, names, counts, looped):
    """The lists of a deed that is right, and None for one that is wrong."""
    if not is_list(deed) or not len(deed):
        return None
    word, *items = deed
    known = "put ask copy rest skip point fresh tell call if loop fail try last leave stop".split()
    if not isinstance(word, str) or word not in known:
        return None
    many = {"put": 2, "copy": 2, "point": 2, "call": 2, "if": 2, "try": 3, "last": 2}
    many.update({"rest": 0, "skip": 0, "leave": 0, "stop": 0})
    if len(items) != many.get(word, 1):
        return None
    if word in ("rest", "skip", "leave"):
        return []
    if word == "stop":
        return [] if looped else None
    if word == "put":
        return [] if is_own(items[0], names) and isinstance(items[1], int) and not isinstance(items[1], bool) else None
    if word in ("ask", "copy", "point", "fresh", "tell"):
        return [] if all(is_own(item, names) for item in items) else None
    if word == "call":
        part, given = items
        right = isinstance(part, str) and part in counts and is_list(given) and len(given) == counts[part]
        return [] if right and all(is_own(one, names) for one in given) else None
    if word == "fail":
        return [] if is_name(items[0]) else None
    if word == "try" and not is_name(items.pop(1)):
        return None
    return items if all(is_list(item) for item in items) else None
