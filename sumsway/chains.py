"""Chains from one thing to another: how many there are, by steps too, and their numbers."""

from sumsway.errors import NoSuch
from sumsway.orders import above, beneath, between, check_thing
from sumsway.sets import set_of, things_in
from sumsway.tables import steps_table, table_sum, table_times, unit_table
from sumsway.undoing import undone


def chains_by_steps(order, a, b):
    inside = between(order, a, b)
    # For each thing how many chains of so many steps lead from a to it, on things between alone.
    counts = {}
    if inside != 0:
        counts[a] = 1
    found = []
    # A chain that ends at another thing between than b has a longer one to b: so b's count
    # is the last one that is not 0.
    while counts != {}:
        found.append(counts.get(b, 0))
        counts = one_step_more(order, inside, counts)
    return found


def one_step_more(order, inside, counts):
    reached = set_of(list(counts))
    more = {}
    for c in things_in(inside):
        lower = things_in(beneath(order, c) & reached)
        if lower != []:
            more[c] = sum([counts[d] for d in lower])
    return more


def chain_many(order, a, b):
    return sum(chains_by_steps(order, a, b))


def chain_numbered(order, a, b, number):
    check_thing(len(order), a)
    check_thing(len(order), b)
    many = chains_table(order)
    if number < 0 or number >= many[a][b]:
        raise NoSuch(f"there is no chain of that number from {a} to {b}")
    chain = [a]
    left = number
    while chain[-1] != b:
        thing = chain[-1]
        # No chain from a to b begins with another one, so those that go on to a lesser thing
        # are all ahead of those that go on to a greater one.
        for c in things_in(above(order, thing)):
            if left < many[c][b]:
                chain.append(c)
                break
            left = left - many[c][b]
    return tuple(chain)


def chains_table(order):
    # Power k of the table of steps counts the chains of k steps, and what undoes the unit table
    # less that of steps is the sum of all its powers.
    return undone(table_sum(unit_table(order), table_times(-1, steps_table(order))))


def number_of_chain(order, chain):
    if not is_chain(order, chain):
        raise NoSuch("this is no chain of the order")
    many = chains_table(order)
    last = chain[-1]
    number = 0
    for k in range(1, len(chain)):
        lesser = [c for c in things_in(above(order, chain[k - 1])) if c < chain[k]]
        number = number + sum([many[c][last] for c in lesser])
    return number


def is_chain(order, chain):
    if len(chain) == 0 or not all([0 <= thing and thing < len(order) for thing in chain]):
        return False
    return all([(beneath(order, chain[k]) >> chain[k - 1]) & 1 == 1 for k in range(1, len(chain))])
