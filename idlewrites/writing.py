"""Texts of programs."""

from idlewrites.shapes import lists_of

STEP = "  "

# The word of the line between the two lists of a deed.
MIDDLES = {"if": "else", "try": "catch", "last": "then"}


def text_of(parts):
    """Return the text of a program's parts."""
    lines = []
    for name, handed, own, body in parts:
        lines.append(line_of(("part", name, handed, own)))
        lines.extend(lines_of_list(body, STEP))
    return "\n".join(lines)


def lines_of_list(body, margin):
    """Return the lines of a list of deeds, each with a margin in front."""
    lines = []
    for deed in body:
        lines.extend(lines_of_deed(deed, margin))
    return lines


def lines_of_deed(deed, margin):
    """Return the lines of a deed, each with a margin in front."""
    word = deed[0]
    lists = lists_of(deed)
    if len(lists) == 0:
        return [margin + line_of(deed)]
    lines = [margin + word]
    lines.extend(lines_of_list(lists[0], margin + STEP))
    if word in MIDDLES:
        # Only try has items between its two lists: the word of the fault.
        lines.append(margin + line_of((MIDDLES[word], *deed[2:-1])))
        lines.extend(lines_of_list(lists[1], margin + STEP))
    return lines


def line_of(items):
    """Return words, integers and tuples of names as one line."""
    return " ".join([shown(item) for item in items])


def shown(item):
    """Return an item of a line as it is written."""
    if isinstance(item, tuple):
        return "(" + " ".join(item) + ")"
    return str(item)
