"""Programs, objects and changes of them for the tests; all of it is the same in each run."""

import random

from idlewrites.programs import Program

GREAT = 10 ** 39 + 7

# One part in which each word of the table stands, nested; it goes with the part ahead of it.
EVERY_DEED = (
    ("turn", ("p", "q"), (), (("copy", "p", "q"),)),
    ("main", ("a", "b"), ("t",), (
        ("put", "a", -5),
        ("ask", "b"),
        ("copy", "a", "b"),
        ("rest",),
        ("skip",),
        ("point", "t", "a"),
        ("fresh", "t"),
        ("tell", "t"),
        ("call", "turn", ("a", "a")),
        ("if", (("put", "a", 0), ("leave",)), ()),
        ("loop", (("ask", "a"), ("if", (("stop",),), (("rest",),)))),
        ("try", (("fail", "oops"),), "oops", (("copy", "b", "t"),)),
        ("last", (("leave",),), (("put", "t", GREAT),)),
    )),
)

EVERY_TEXT = """\
part turn (p q) ()
  copy p q
part main (a b) (t)
  put a -5
  ask b
  copy a b
  rest
  skip
  point t a
  fresh t
  tell t
  call turn (a a)
  if
    put a 0
    leave
  else
  loop
    ask a
    if
      stop
    else
      rest
  try
    fail oops
  catch oops
    copy b t
  last
    leave
  then
    put t 1000000000000000000000000000000000000007"""

EVERY_WRITE = [
    (0, 0), (1, 0), (1, 1), (1, 2), (1, 9, 0, 0), (1, 10, 0, 0), (1, 11, 1, 0), (1, 12, 1, 0),
]

# Names of parts, cells and faults that are spelled alike, and like words of the language of texts.
ALIKE = (
    ("put", ("put", "part"), ("else",), (("put", "put", 1), ("fail", "put"))),
    ("part", (), ("put", "if"), (
        ("call", "put", ("put", "if")),
        ("try", (("fail", "if"),), "part", (("copy", "if", "put"),)),
    )),
    ("else", ("else",), ("part",), (("call", "part", ()), ("tell", "else"))),
)

# The example of [48]: neither of its writes can be struck alone, but both together.
TURN = (
    ("turn", ("p", "q", "r"), (), (("copy", "p", "q"), ("copy", "q", "r"))),
    ("main", ("a", "b"), ("t",), tuple(("call", "turn", given) for given in (("t", "a", "b"), ("b", "t", "t")) * 2)),
)

SIX_DEEP = (
    ("main", (), (), (
        ("if", (("loop", (("try", (("last", (), (("if", (), (("loop", ()),)),)),), "w", ()),)),), ()),
    )),
)

# Objects of every kind that "any object" means, none of which is a word, a name or a place of a deed.
OBJECTS = (
    None, True, False, 0, 1, -1, GREAT, "", "ab", "A", "a b", "put a 1", "too long a name", "a\n", "0", (), [], {},
    (None,), [None], (True,), [False], (0, True), [0, True], (False, 0), (-1,), [0, -1], ("a",), ["a"], ((0, 0),),
    [[0, 0]], ([0], 0), {"a": 1}, {(0, 0): (0, 0)}, ({},), [{}, ()], ((((((),),),),),), (GREAT, 0), "(0, 0)",
)


def lists_of(deed):
    """The lists of deeds in a deed, told by its word alone."""
    where = {"if": (1, 2), "loop": (1,), "try": (1, 3), "last": (1, 2)}
    return [deed[at] for at in where.get(deed[0], ())]


def walked(parts):
    """The pairs (place, deed) of all deeds, ascending."""
    found = []

    def walk(place, deeds):
        for index, deed in enumerate(deeds):
            found.append((place + (index,), deed))
            for number, inner in enumerate(lists_of(deed)):
                walk(place + (index, number), inner)

    for index, part in enumerate(parts):
        walk((index,), part[3])
    return found


def as_lists(thing):
    """The same with lists in the place of all tuples."""
    return [as_lists(item) for item in thing] if isinstance(thing, (tuple, list)) else thing


def mixed(thing, chance):
    """The same with lists in the place of some tuples."""
    if not isinstance(thing, (tuple, list)):
        return thing
    return chance.choice((list, tuple))([mixed(item, chance) for item in thing])


def spoiled(thing):
    """Change each list in a thing."""
    if isinstance(thing, (tuple, list)):
        for item in thing:
            spoiled(item)
    if isinstance(thing, list):
        thing.append("spoiled")
        thing[0] = None


def program_parts(seed):
    """The parts of some program that Program takes."""
    chance = random.Random(seed)
    parts = []
    for _ in range(chance.randint(1, 6)):
        names = chance.sample(("a", "b", "c", "put", "if", "else", "eightabc", "part"), chance.randint(0, 7))
        cut = chance.randint(max(0, len(names) - 3), min(4, len(names)))
        known = {part[0]: len(part[1]) for part in parts}
        name = chance.choice([word for word in ("a", "if", "main", "turn", "stop", "zz", "x", "q") if word not in known])
        room = [chance.randint(0, 12)]
        body = some_deeds(chance, names, known, room, 1, False)
        parts.append((name, tuple(names[:cut]), tuple(names[cut:]), body))
    return tuple(parts)


def some_deeds(chance, names, known, room, depth, looped):
    deeds = []
    for _ in range(chance.randint(0, 5)):
        if room[0] > 0:
            room[0] -= 1
            deeds.append(some_deed(chance, names, known, room, depth, looped))
    return tuple(deeds)


def some_deed(chance, names, known, room, depth, looped):
    words = ["rest", "skip", "fail", "leave"]
    if names:
        words += ["put", "ask", "copy", "point", "fresh", "tell"]
    callable_parts = [part for part, count in known.items() if names or not count]
    words += ["call"] * bool(callable_parts) + ["stop"] * looped
    if depth < 6:
        words += ["if", "loop", "try", "last"] * 2
    word = chance.choice(words)

    def inner(inside=looped):
        return some_deeds(chance, names, known, room, depth + 1, inside)

    if word == "call":
        part = chance.choice(callable_parts)
        return (word, part, tuple(chance.choice(names) for _ in range(known[part])))
    fault = chance.choice(("oops", "a", "catch"))
    makers = {
        "put": lambda: (chance.choice(names), chance.choice((0, 1, -1, 10, -5, GREAT, -GREAT))),
        "copy": lambda: (chance.choice(names), chance.choice(names)),
        "point": lambda: (chance.choice(names), chance.choice(names)),
        "ask": lambda: (chance.choice(names),),
        "fresh": lambda: (chance.choice(names),),
        "tell": lambda: (chance.choice(names),),
        "fail": lambda: (fault,),
        "if": lambda: (inner(), inner()),
        "loop": lambda: (inner(True),),
        "try": lambda: (inner(), fault, inner()),
        "last": lambda: (inner(), inner()),
    }
    return (word, *makers.get(word, lambda: ())())


def programs(count):
    return [Program(program_parts(seed)) for seed in range(count)]
