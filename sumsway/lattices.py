"""Lattices: orders with a thing in which each two things have a meet and a join; spread ones; things across."""

from sumsway.errors import NoLattice
from sumsway.meets import join, meet, meet_bar
from sumsway.orders import check_thing, greatest_things, upside_down
from sumsway.sets import set_of, things_in
from sumsway.tables import table_by


def lattice_bar(order):
    if len(order) == 0:
        return ()
    # What is a meet upside down is a join: so the order is turned once, not for each two things.
    turned = upside_down(order)
    for a in range(len(order)):
        for b in range(a, len(order)):
            # Of two bars for the same two things the one with the word `join` is the lesser.
            if meet_bar(turned, a, b) is not None:
                return (a, b, "join")
            if meet_bar(order, a, b) is not None:
                return (a, b, "meet")
    return None


def is_lattice(order):
    return lattice_bar(order) is None


def check_lattice(order):
    if not is_lattice(order):
        raise NoLattice("the order is no lattice")


def meet_rows(order):
    check_lattice(order)
    return table_by(len(order), lambda a, b: meet(order, a, b))


def join_rows(order):
    check_lattice(order)
    return table_by(len(order), lambda a, b: join(order, a, b))


def spread_bar(order):
    meets = meet_rows(order)
    joins = join_rows(order)
    for a in range(len(order)):
        for b in range(len(order)):
            for c in range(len(order)):
                if meets[a][joins[b][c]] != joins[meets[a][b]][meets[a][c]]:
                    return (a, b, c)
    return None


def is_spread(order):
    return spread_bar(order) is None


def across(order, a):
    check_lattice(order)
    check_thing(len(order), a)
    greatest = things_in(greatest_things(order))[0]
    return set_of([x for x in range(len(order)) if join(order, a, x) == greatest])
