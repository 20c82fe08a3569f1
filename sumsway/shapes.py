"""Whether two orders have the same shape, and the least row that renumbers the one to the other.

A cell is a pair of lists: some things of the one order, and those things of the other one that
they may become. Each thing stands in just one cell.
"""

from sumsway.orders import above, beneath
from sumsway.sets import things_in


def shape_row(one, other):
    if len(one) != len(other):
        return None
    things = list(range(len(one)))
    return row_from(one, other, settled(one, other, [(things, things)]), 0)


def same_shape(one, other):
    return shape_row(one, other) is not None


def row_from(one, other, cells, thing):
    # All things less than this one have a cell of their own.
    if not are_even(cells):
        return None
    if thing == len(one):
        return [may_become(cells, a)[0] for a in range(len(one))]
    for image in unlike_ones(other, may_become(cells, thing)):
        row = row_from(one, other, settled(one, other, set_apart(cells, thing, image)), thing + 1)
        if row is not None:
            return row
    return None


def are_even(cells):
    return all([len(mine) == len(theirs) for mine, theirs in cells])


def may_become(cells, thing):
    return [theirs for mine, theirs in cells if thing in mine][0]


def unlike_ones(order, things):
    # Things with the same ones beneath and above can change places and leave the order as it is:
    # where the least of them leads to no row, none of the others does.
    seen = []
    unlike = []
    for thing in things:
        around = (beneath(order, thing), above(order, thing))
        if around not in seen:
            seen.append(around)
            unlike.append(thing)
    return unlike


def set_apart(cells, thing, image):
    many = sum([len(mine) for mine, theirs in cells])
    return parted(cells, [a == thing for a in range(many)], [b == image for b in range(many)])


def settled(one, other, cells):
    # Parted until all things of a cell have as many things of each cell beneath them, and above them,
    # as the others of it have. Where each cell has one thing then, they tell a row that renumbers.
    many = 0
    while len(cells) != many and are_even(cells):
        many = len(cells)
        marks = marks_by(one, [mine for mine, theirs in cells])
        other_marks = marks_by(other, [theirs for mine, theirs in cells])
        cells = parted(cells, marks, other_marks)
    return cells


def marks_by(order, sides):
    numbers = [0] * len(order)
    for k in range(len(sides)):
        for a in sides[k]:
            numbers[a] = k
    return [mark_of(order, numbers, b) for b in range(len(order))]


def mark_of(order, numbers, b):
    lower = sorted([numbers[a] for a in things_in(beneath(order, b))])
    higher = sorted([numbers[c] for c in things_in(above(order, b))])
    return (tuple(lower), tuple(higher))


def parted(cells, marks, other_marks):
    parts = []
    for mine, theirs in cells:
        for mark in sorted(set([marks[a] for a in mine])):
            mine_alike = [a for a in mine if marks[a] == mark]
            parts.append((mine_alike, [b for b in theirs if other_marks[b] == mark]))
    return parts
