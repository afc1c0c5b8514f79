"""Reading the texts of programs, line by line.

What is read here has the form of parts; whether they make a program is not asked. A function that
reads from a line on returns what it has read and the index of the line behind it.
"""

from idlewrites.errors import BadText
from idlewrites.kinds import is_name
from idlewrites.shapes import SHAPES
from idlewrites.writing import MIDDLES, STEP

DIGITS = "0123456789"


def parts_of(text):
    """Return the parts that a text tells; raise BadText if it is not the text of parts."""
    lines = text.split("\n")
    parts = []
    at = 0
    while at < len(lines):
        head = head_of_part(lines[at])
        if head is None:
            raise BadText(at + 1)
        body, at = read_list(lines, at + 1, STEP)
        parts.append((*head, body))
    return parts


def read_list(lines, start, margin):
    """Read deeds from a line on, as long as deeds with this margin begin there."""
    found = []
    at = start
    while True:
        deed, behind = read_deed(lines, at, margin)
        if deed is None:
            return found, at
        found.append(deed)
        at = behind


def read_deed(lines, at, margin):
    """Read the deed that begins at a line with this margin; it is None if none begins there."""
    line = line_at(lines, at, margin)
    if line in SHAPES and "list" in SHAPES[line]:
        return read_block(lines, at, margin)
    return deed_of_line(line), at + 1


def read_block(lines, at, margin):
    """Read a deed that has lists, and whose first line is its word."""
    word = line_at(lines, at, margin)
    first, behind = read_list(lines, at + 1, margin + STEP)
    if word not in MIDDLES:
        return (word, first), behind
    items = items_of_middle(word, line_at(lines, behind, margin))
    if items is None:
        raise BadText(behind + 1)
    second, behind = read_list(lines, behind + 1, margin + STEP)
    return (word, first, *items, second), behind


def line_at(lines, at, margin):
    """Return a line without its margin.

    A line that is missing or has a lesser margin comes out empty, as a line that never stands.
    """
    if at >= len(lines) or not lines[at].startswith(margin):
        return ""
    return lines[at][len(margin):]


def head_of_part(line):
    """Return name, handed and own names of the part whose first line this is, or None."""
    words = line.split(" ", 2)
    if len(words) != 3 or words[0] != "part" or not is_name(words[1]):
        return None
    handed, _, own = words[2].partition(") (")
    handed = names_of(handed + ")")
    own = names_of("(" + own)
    if handed is None or own is None:
        return None
    return words[1], handed, own


def deed_of_line(line):
    """Return the deed whose only line this is, or None."""
    words = line.split(" ")
    word = words[0]
    if word == "call":
        return call_of_line(line)
    if word not in SHAPES or "list" in SHAPES[word] or len(words) != 1 + len(SHAPES[word]):
        return None
    items = [item_of(kind, text) for kind, text in zip(SHAPES[word], words[1:])]
    if None in items:
        return None
    return (word, *items)


def call_of_line(line):
    """Return the call whose line this is, or None."""
    words = line.split(" ", 2)
    if len(words) != 3 or not is_name(words[1]):
        return None
    names = names_of(words[2])
    if names is None:
        return None
    return words[0], words[1], names


def items_of_middle(word, line):
    """Return the items that stand in the line between the two lists of a deed, or None if it is no such line."""
    words = line.split(" ")
    if words[0] != MIDDLES[word] or len(words) != len(SHAPES[word]) - 1:
        return None
    if not all([is_name(text) for text in words[1:]]):
        return None
    return words[1:]


def item_of(kind, text):
    """Return the item of a deed, a name or an integer, that is written so, or None."""
    if kind == "number":
        return integer_of(text)
    if is_name(text):
        return text
    return None


def integer_of(text):
    """Return the integer that Python writes so, or None."""
    digits = text.removeprefix("-")
    if digits == "" or not all([digit in DIGITS for digit in digits]):
        return None
    # A zero too many or the sign of -0 are lost when the integer is written again.
    if str(int(text)) != text:
        return None
    return int(text)


def names_of(text):
    """Return the list of the names that stand in brackets, or None."""
    if text == "()":
        return []
    if not text.startswith("(") or not text.endswith(")"):
        return None
    names = text[1:-1].split(" ")
    if not all([is_name(name) for name in names]):
        return None
    return names
