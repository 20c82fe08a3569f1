"""The table that undoes a table, and powers of tables."""

from sumsway.errors import NotUndone
from sumsway.tables import table_product, unit_of


def undone(table):
    for thing in range(len(table)):
        if table[thing][thing] not in (1, -1):
            raise NotUndone(f"the own number of thing {thing} is neither 1 nor -1", thing)
    walk = walk_upward(table)
    return tuple([undoing_row(table, walk, a) for a in range(len(table))])


def walk_upward(table):
    # The order itself is not known here, and need not be: it is enough that each thing comes behind
    # all others from which a number other than 0 leads to it.
    walk = []
    left = list(range(len(table)))
    ready = those_ready(table, left)
    while ready != []:
        walk.extend(ready)
        left = [b for b in left if b not in ready]
        ready = those_ready(table, left)
    return walk


def those_ready(table, left):
    return [b for b in left if is_ready(table, left, b)]


def is_ready(table, left, b):
    return all([table[c][b] == 0 for c in left if c != b])


def undoing_row(table, walk, a):
    row = [0] * len(table)
    for b in walk:
        wanted = 1 if a == b else 0
        # The places that the walk has not come to, b's among them, are still 0 and add nothing.
        so_far = sum([row[c] * table[c][b] for c in range(len(table))])
        # To divide by 1 or -1 is to take it so many times.
        row[b] = (wanted - so_far) * table[b][b]
    return tuple(row)


def table_power(table, many):
    factor = undone(table) if many < 0 else table
    left = abs(many)
    power = unit_of(len(table))
    while left > 0:
        if left % 2 == 1:
            power = table_product(power, factor)
        factor = table_product(factor, factor)
        left = left // 2
    return power
