"""The table of signs, sums over all things beneath or above, and sums turned back."""

from sumsway.errors import NoRow
from sumsway.tables import ones_table, turned_table
from sumsway.undoing import undone


def signs_table(order):
    return undone(ones_table(order))


def sums_beneath(order, row):
    return gathered(ones_table(order), row)


def sums_above(order, row):
    return gathered(turned_table(ones_table(order)), row)


def turned_beneath(order, sums):
    return gathered(signs_table(order), sums)


def turned_above(order, sums):
    return gathered(turned_table(signs_table(order)), sums)


def gathered(table, row):
    if len(row) != len(table):
        many = len(table)
        raise NoRow(f"a row over this order has {many} numbers")
    return [gathered_at(table, row, b) for b in range(len(table))]


def gathered_at(table, row, b):
    return sum([table[a][b] * row[a] for a in range(len(table))])
