"""The bones of programs: what two programs that differ in writes alone have in common."""

from idlewrites.errors import UnlikeBones
from idlewrites.shapes import STRUCK, lists_of, numbered, placed_deeds, with_lists


def check_bones(one, other):
    """Raise UnlikeBones with the first place at which two programs have not the same bones."""
    parts = one.parts()
    others = other.parts()
    for (place, part), beside in zip(numbered((), parts), others):
        if bone_of_part(part) != bone_of_part(beside):
            raise UnlikeBones(place)
        # As long as the bones are the same, so are the places that stand side by side.
        for (here, deed), (_, mate) in zip(placed_deeds(place, part[3]), placed_deeds(place, beside[3])):
            if bone_of(deed) != bone_of(mate):
                raise UnlikeBones(here)
    if len(parts) != len(others):
        raise UnlikeBones((min(len(parts), len(others)),))


def bone_of_part(part):
    """Return what programs of the same bones have in common of a part, but for the deeds of its body."""
    name, handed, own, body = part
    return name, handed, own, len(body)


def bone_of(deed):
    """Return what programs of the same bones have in common of a deed, but for the deeds in its lists."""
    if deed[0] in STRUCK:
        return STRUCK[deed[0]]
    return with_lists(deed, [len(inner) for inner in lists_of(deed)])
