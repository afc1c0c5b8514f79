"""Standings of two runs, in numbers.

Here a standing is a tuple (outer, names, contents) as in a paper, but its contents are integers that
stand one behind the other: for each cell the content in the one program, and then that in the other.
A content is the number of a value, from 0 on, or the spot (see effects.py) of an integer, below 0.
"""

from idlewrites.skeletons import ZERO, renumbered


def standing_of_main(pattern, own):
    """Return the standing at the beginning of main, whose handed names meet as in the pattern."""
    return standing_of_part(pattern, [value for value in range(len(set(pattern))) for _ in (0, 1)], own)


def standing_of_part(pattern, contents, own):
    """Return the standing at the beginning of a part.

    Its handed names meet as in the pattern, in cells with these contents; it has so many own names.
    """
    many = len(contents) // 2
    return pattern, pattern + tuple(range(many, many + own)), tuple(contents) + (ZERO,) * (2 * own)


def tidied(outer, names, contents):
    """Return the standing in which the cells are numbered as they come, and those that do not come are forgotten."""
    numbers, olds = renumbered(names, len(set(outer)))
    return outer, numbers, tuple(contents_of(olds, contents))


def contents_of(cells, contents):
    """Return the list of the contents of some cells."""
    return [contents[2 * cell + side] for cell in cells for side in (0, 1)]


def numbered_onward(contents, many):
    """Return contents in which the values from many on are numbered as they come, and their old numbers."""
    numbers = {}
    for content in contents:
        if content >= many and content not in numbers:
            numbers[content] = many + len(numbers)
    return tuple([numbers.get(content, content) for content in contents]), list(numbers)


def count_of_values(contents):
    """Return the number of the values in plain contents."""
    return 1 + max([int(content) for content in contents if content >= 0], default=-1)


def named_back(contents, olds, new):
    """Return contents with the values that were numbered as olds; those that come anew are numbered from new on."""
    many = len(olds)
    back = []
    for content in contents:
        if content >= many:
            back.append(new + content - many)
        else:
            back.append(olds[content] if content >= 0 else content)
    return back
