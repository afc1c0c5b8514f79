"""The kinds of objects that the document speaks of: integers, names, lists and places."""

LETTERS = "abcdefghijklmnopqrstuvwxyz"
LONGEST_NAME = 8


def is_integer(thing):
    """Tell whether a thing is an integer; a truth is none."""
    return isinstance(thing, int) and not isinstance(thing, bool)


def is_name(thing):
    """Tell whether a thing is spelled as a name."""
    if not isinstance(thing, str) or not 1 <= len(thing) <= LONGEST_NAME:
        return False
    return all([letter in LETTERS for letter in thing])


def is_list(thing):
    """Tell whether a thing is a list, or a tuple, which may be passed for one."""
    return isinstance(thing, (list, tuple))


def are_names(thing):
    """Tell whether a thing is a list of names."""
    return is_list(thing) and all([is_name(item) for item in thing])


def as_place(thing):
    """Return a tuple or list of integers from 0 on as a tuple, and None for any other object."""
    if not is_list(thing):
        return None
    if not all([is_integer(item) and item >= 0 for item in thing]):
        return None
    return tuple(thing)
