"""What DOC.md says, reckoned from its words pair by pair: slow, and without masks but at the ends."""

import itertools
import random


def mask_of(things):
    return sum(2 ** thing for thing in set(things))


def led_to(many, pairs):
    """All (a, b) such that a row of the pairs, at least one, leads from a to b."""
    led = set()
    for start in range(many):
        reached = {b for a, b in pairs if a == start}
        while True:
            further = reached | {b for a, b in pairs if a in reached}
            if further == reached:
                break
            reached = further
        led |= {(start, end) for end in reached}
    return led


def at_or_beneath(order):
    """All (a, b) of the order with a at or beneath b."""
    things = range(len(order))
    return {(a, b) for a in things for b in things if order[b] // 2 ** a % 2 == 1}


def order_of(many, pairs):
    """The order whose pairs "at or beneath" are these."""
    return tuple(mask_of(a for a in range(many) if (a, b) in pairs) for b in range(many))


def makes_order(many, pairs):
    """Whether these are the pairs "at or beneath" of an order of so many things."""
    own = all((a, a) in pairs for a in range(many))
    twice = any((b, a) in pairs for a, b in pairs if a != b)
    return own and not twice and led_to(many, pairs) == pairs


def is_ring(pairs, ring):
    steps = list(zip(ring, ring[1:] + ring[:1]))
    return len(ring) >= 1 and len(set(ring)) == len(ring) and all(step in pairs for step in steps)


def all_orders(many):
    """All orders of so many things, at most 3, found among all sets of pairs."""
    ways = list(itertools.product(range(many), repeat=2))
    found = []
    for picks in itertools.product((False, True), repeat=len(ways)):
        pairs = {way for way, picked in zip(ways, picks) if picked}
        if makes_order(many, pairs):
            found.append(order_of(many, pairs))
    return found


def ringless_pairs(source, many):
    """Pairs without a ring, of things numbered in any way, in any order, some twice, some that follow."""
    line = list(range(many))
    source.shuffle(line)
    ways = [(line[i], line[k]) for k in range(many) for i in range(k)]
    share = source.choice((0.05, 0.15, 0.3, 0.6, 1))
    pairs = [way for way in ways if source.random() < share]
    pairs += [pair for pair in pairs if source.random() < 0.2]
    pairs += [pair for pair in sorted(led_to(many, pairs)) if source.random() < 0.2]
    source.shuffle(pairs)
    return pairs


def mixed_orders():
    """Orders of each size from 0 to 16, the same ones on every call."""
    source = random.Random(1016)
    orders = all_orders(0) + all_orders(1) + all_orders(2) + all_orders(3)
    for many in range(4, 17):
        for turn in range(6):
            led = led_to(many, ringless_pairs(source, many))
            orders.append(order_of(many, led | {(a, a) for a in range(many)}))
        orders.append(tuple(2 ** b for b in range(many)))
        orders.append(tuple(2 ** (b + 1) - 1 for b in range(many)))
    return orders


def things_between(order):
    """For each pair (a, b) with a at or beneath b all things between them."""
    pairs = at_or_beneath(order)
    things = range(len(order))
    return {(a, b): [c for c in things if (a, c) in pairs and (c, b) in pairs] for a, b in pairs}


def table_of(many, numbers):
    """The table whose numbers other than 0 stand in a dict by pairs."""
    return tuple(tuple(numbers.get((a, b), 0) for b in range(many)) for a in range(many))


def unit_over(order):
    return table_of(len(order), {(a, a): 1 for a in range(len(order))})


def product_over(order, one, other):
    numbers = {}
    for (a, b), things in things_between(order).items():
        numbers[a, b] = 0
        for c in things:
            numbers[a, b] += one[a][c] * other[c][b]
    return table_of(len(order), numbers)


def signs_over(order):
    """The numbers for (a, b) from those for all (a, c) with fewer things between, by the sum that is 0."""
    between = things_between(order)
    numbers = {}
    for a, b in sorted(between, key=lambda pair: len(between[pair])):
        numbers[a, b] = 1 if a == b else -sum(numbers[a, c] for c in between[a, b] if c != b)
    return table_of(len(order), numbers)


def chains_from_to(order, a, b):
    """All chains from a to b, ascending."""
    less = {pair for pair in at_or_beneath(order) if pair[0] != pair[1]}
    found = []
    begun = [(a,)]
    while begun:
        found += [chain for chain in begun if chain[-1] == b]
        begun = [chain + (c,) for chain in begun for c in range(len(order))
                 if (chain[-1], c) in less and (c == b or (c, b) in less)]
    return sorted(found)
