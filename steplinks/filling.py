"""Layings in which parts of them stand as they are told, by fitting these parts into the sheet.

A part is a dict from records to the places where they stand, told from any of them. Places that are taken are told
by an integer in which their bits are set.
"""

from itertools import permutations

from steplinks.sheets import opposite


class Shape:
    """A part of several records, as pairs, that can be moved; `takes` tells for each move which places it takes."""

    def __init__(self, rows, pairs):
        self.pairs = pairs
        self.takes = [sum([1 << row[place] for _, place in pairs]) for row in rows]


class Sheet:
    """What is reckoned only once of the sheet on which parts are laid."""

    def __init__(self, scheme, rows):
        self.rows = rows
        self.backward = [rows[opposite(scheme.moduli, step)] for step in scheme.steps]
        self.shapes = {}

    def shape(self, part):
        """The shape of a part; the same parts come up again and again."""
        pairs = tuple(part.items())
        if pairs not in self.shapes:
            self.shapes[pairs] = Shape(self.rows, pairs)
        return self.shapes[pairs]


class Begun:
    """A laying that is begun: what stands where, what is taken, and the shapes and single records still to be laid."""

    def __init__(self, laying, taken, shapes, singles):
        self.laying = laying
        self.taken = taken
        self.shapes = shapes
        self.singles = singles


def begin(sheet, parts):
    """The laying in which only the first part is laid, just where it stands; the ground in it is no record."""
    many = len(sheet.rows)
    laying = [None] * many
    taken = 0
    for record, place in parts[0].items():
        if record < many:
            laying[place] = record
            taken = taken | (1 << place)
    shapes = [sheet.shape(part) for part in parts[1:] if len(part) > 1]
    singles = [record for part in parts[1:] if len(part) == 1 for record in part]
    return Begun(laying, taken, shapes, singles)


def with_shape(sheet, begun, at, move):
    """What is begun, and one of the shapes in it, moved."""
    shape = begun.shapes[at]
    laying = list(begun.laying)
    for record, place in shape.pairs:
        laying[sheet.rows[move][place]] = record
    others = begun.shapes[:at] + begun.shapes[at + 1:]
    return Begun(laying, begun.taken | shape.takes[move], others, begun.singles)


def with_single(begun, at, place):
    """What is begun, and one of the single records in it, at a place."""
    laying = list(begun.laying)
    laying[place] = begun.singles[at]
    others = begun.singles[:at] + begun.singles[at + 1:]
    return Begun(laying, begun.taken | (1 << place), begun.shapes, others)


def free_places(laying):
    """The places on which nothing stands yet."""
    return [place for place, record in enumerate(laying) if record is None]


def hole_beside(sheet, begun):
    """A free place, if there is such a one with a step to it from a place that is taken."""
    holes = free_places(begun.laying)
    for place in holes:
        if [back for back in sheet.backward if begun.laying[back[place]] is not None]:
            return place
    return holes[0]


def led_on(sheet, begun):
    """The layings that one part more leads to; what fills the sheet in the end comes from one of them only."""
    fits = [[move for move, takes in enumerate(shape.takes) if (takes & begun.taken) == 0] for shape in begun.shapes]
    many = [len(moves) for moves in fits]
    if 0 in many:
        return []
    hole = hole_beside(sheet, begun)
    there = [(at, move) for at, moves in enumerate(fits) for move in moves
             if (begun.shapes[at].takes[move] >> hole) & 1]
    # Either a shape is laid or a hole is filled, whichever leaves less to choose.
    if min(many) < len(there) + len(begun.singles):
        least = many.index(min(many))
        return [with_shape(sheet, begun, least, move) for move in fits[least]]
    filled = [with_shape(sheet, begun, at, move) for at, move in there]
    return filled + [with_single(begun, at, hole) for at in range(len(begun.singles))]


def with_singles(begun, enough):
    """At most so many layings, by the orders in which single records fill the free places."""
    holes = free_places(begun.laying)
    found = []
    for order in permutations(begun.singles):
        if len(found) == enough:
            break
        laying = list(begun.laying)
        for place, record in zip(holes, order):
            laying[place] = record
        found.append(tuple(laying))
    return found


def fillings(sheet, parts, enough):
    """At most so many of the layings in which each part stands as it is told, the first one just where it is told."""
    found = []
    rest = [begin(sheet, parts)]
    while rest and len(found) < enough:
        begun = rest.pop()
        if begun.shapes:
            rest.extend(led_on(sheet, begun))
        else:
            found.extend(with_singles(begun, enough - len(found)))
    return found
