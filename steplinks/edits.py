"""Edits of layings on a ring, and what has to be written for them."""

from steplinks.checks import between
from steplinks.errors import NoEdit, NoRow, NotRing
from steplinks.layings import check_laying, drawn, plain, unlike_entries
from steplinks.sheets import places

EXCHANGE = "exchange"
TURN = "turn"
MOVE = "move"


def check_bare_ring(scheme):
    """Raise NotRing unless a scheme is a ring without numbers."""
    if len(scheme.moduli) != 1 or scheme.numbers > 0:
        raise NotRing()


def exchanged(laying, one, other):
    """A laying after two records have exchanged places."""
    found = list(laying)
    found[laying.index(one)] = other
    found[laying.index(other)] = one
    return found


def parted(laying, first, last):
    """The records from one on to another one, round the end if need be, and those behind them up to the first."""
    start = laying.index(first)
    turned = laying[start:] + laying[:start]
    many = turned.index(last) + 1
    return (list(turned[:many]), list(turned[many:]))


def turned_about(laying, first, last):
    """A laying, come round, after the records from one on to another one stand the other way about."""
    stretch, others = parted(laying, first, last)
    return list(reversed(stretch)) + others


def moved_behind(laying, first, last, target):
    """A laying, come round, after some records stand behind a target; None if the target is one of them."""
    stretch, others = parted(laying, first, last)
    if target not in others:
        return None
    behind = others.index(target) + 1
    return others[:behind] + stretch + others[behind:]


def are_records(scheme, thing):
    """Whether a tuple is one of records alone."""
    return all([between(item, 0, places(scheme) - 1) for item in thing])


def after_edit(scheme, laying, edit):
    """The records in order behind an edit, from some place on; None if it is no edit."""
    if not isinstance(edit, tuple) or len(edit) not in (3, 4) or not are_records(scheme, edit[1:]):
        return None
    word = edit[0]
    if word == MOVE and len(edit) == 4:
        return moved_behind(laying, edit[1], edit[2], edit[3])
    if word == TURN and len(edit) == 3:
        return turned_about(laying, edit[1], edit[2])
    if word == EXCHANGE and len(edit) == 3 and edit[1] != edit[2]:
        return exchanged(laying, edit[1], edit[2])
    return None


def edited(scheme, laying, edit):
    """The plain laying behind an edit."""
    check_bare_ring(scheme)
    check_laying(scheme, laying)
    found = after_edit(scheme, laying, edit)
    if found is None:
        raise NoEdit()
    return plain(scheme, tuple(found))


def writes_between(before, behind):
    """The ascending tuple of the writes that make one right image of another."""
    return tuple([(record, kind, behind[record][kind]) for record, kind in unlike_entries(before, behind)])


def writes(scheme, one, other):
    """The ascending tuple of the triples (record, kind, name) in which the image of the other laying differs."""
    check_bare_ring(scheme)
    check_laying(scheme, one)
    check_laying(scheme, other)
    return writes_between(drawn(scheme, one), drawn(scheme, other))


def is_write(scheme, thing):
    """Whether a thing is a triple of a record, a kind and a name."""
    if not isinstance(thing, tuple) or len(thing) != 3:
        return False
    record, kind, name = thing
    last = places(scheme) - 1
    return between(record, 0, last) and between(kind, 0, len(scheme.steps) - 1) and between(name, 0, last)


def are_writes(scheme, thing):
    """Whether a thing is a tuple of writes."""
    if not isinstance(thing, tuple):
        return False
    return all([is_write(scheme, item) for item in thing])


def behind_writes(image, row):
    """An image behind writes, done one behind another."""
    rows = [list(entries) for entries in image]
    for record, kind, name in row:
        rows[record][kind] = name
    return tuple([tuple(entries) for entries in rows])


def written(scheme, one, row):
    """The image of a laying behind writes, done one behind another."""
    check_bare_ring(scheme)
    check_laying(scheme, one)
    if not are_writes(scheme, row):
        raise NoRow()
    return behind_writes(drawn(scheme, one), row)


def followers(laying):
    """For each record the one that stands one place on from it."""
    found = [0] * len(laying)
    for place, record in enumerate(laying):
        found[laying[place - 1]] = record
    return found


def seams(scheme, one, other):
    """The ascending tuple of the records behind which other records stand in two layings."""
    check_bare_ring(scheme)
    check_laying(scheme, one)
    check_laying(scheme, other)
    return tuple([record for record, (first, second) in enumerate(zip(followers(one), followers(other)))
                  if first != second])
