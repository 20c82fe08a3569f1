"""Tables over an order: a tuple of tuples, at place b of the a-th one the number for the pair (a, b)."""

from sumsway.errors import NoTable
from sumsway.orders import next_pairs


def made_table(order, rows):
    many = len(order)
    if len(rows) != many or any([len(row) != many for row in rows]):
        raise NoTable(f"a table over this order has {many} rows of {many} numbers each")
    for a in range(many):
        for b in range(many):
            if rows[a][b] != 0 and not is_pair_of(order, a, b):
                raise NoTable(f"{a} is not at or beneath {b}, so the number for them is 0")
    return tuple([tuple(row) for row in rows])


def is_pair_of(order, a, b):
    return (order[b] >> a) & 1 == 1


def table_by(many, number_for):
    rows = []
    for a in range(many):
        rows.append(tuple([number_for(a, b) for b in range(many)]))
    return tuple(rows)


def unit_of(many):
    return table_by(many, lambda a, b: 1 if a == b else 0)


def unit_table(order):
    return unit_of(len(order))


def ones_table(order):
    return table_by(len(order), lambda a, b: 1 if is_pair_of(order, a, b) else 0)


def steps_table(order):
    return table_by(len(order), lambda a, b: 1 if a != b and is_pair_of(order, a, b) else 0)


def next_table(order):
    pairs = next_pairs(order)
    return table_by(len(order), lambda a, b: 1 if (a, b) in pairs else 0)


def table_sum(one, other):
    return table_by(len(one), lambda a, b: one[a][b] + other[a][b])


def table_times(number, table):
    return table_by(len(table), lambda a, b: number * table[a][b])


def table_product(one, other):
    many = len(one)
    # Where c is not between a and b, one of the two numbers is 0: so the order need not be known,
    # and the sum may go over all things.
    return table_by(many, lambda a, b: sum([one[a][c] * other[c][b] for c in range(many)]))


def turned_table(table):
    return table_by(len(table), lambda a, b: table[b][a])
