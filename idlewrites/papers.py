"""Papers: finite tables by which a small checker sees that two programs are alike."""

from idlewrites.bones import check_bones
from idlewrites.doing import Doing
from idlewrites.effects import Effects
from idlewrites.errors import Parted
from idlewrites.forms import Form
from idlewrites.judging import parting
from idlewrites.keeping import kept_meetings
from idlewrites.meetings import marks_of
from idlewrites.standings import standing_of_main
from idlewrites.walking import pattern_of


def paper(one, other, promises=()):
    """Return the right paper with the fewest keys and ends; raise UnlikeBones, BadPromise or Parted."""
    found = parting(one, other, promises)
    if found is not None:
        raise Parted(found)
    effects = Effects()
    doing = Doing(one, other, effects, {}, True)
    for key in first_keys(one, promises):
        doing.ends(key)
    return Form(one, effects).paper_of(doing.table)


def is_paper(one, other, thing, promises=()):
    """Tell of any object whether it is a right paper; raise UnlikeBones or BadPromise."""
    check_bones(one, other)
    first = first_keys(one, promises)
    effects = Effects()
    table = Form(one, effects).table_of(thing)
    if table is None:
        return False
    for key in first:
        if key not in table or not all([leaves_alike(standing) for _, standing in table[key]]):
            return False
    doing = Doing(one, other, effects, table, False)
    for key in list(table):
        come = doing.comes_to(key)
        if not doing.right or not all([end in table[key] for end in come]):
            return False
    return True


def first_keys(program, promises):
    """Return the keys of the body of main at the meetings that keep the promises; raise BadPromise."""
    _, handed, own, _ = program.parts()[-1]
    patterns = [pattern_of(marks_of(handed, meeting)) for meeting in kept_meetings(handed, promises)]
    return [((len(program.parts()) - 1,), standing_of_main(pattern, len(own))) for pattern in patterns]


def leaves_alike(standing):
    """Tell whether the cells of outer have the same contents in both programs."""
    outer, _, contents = standing
    return all([contents[2 * cell] == contents[2 * cell + 1] for cell in outer])
