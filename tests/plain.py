"""What DOC.md says, reckoned from its words pair by pair: slow, and without masks but at the ends."""

import itertools
import random


def mask_of(things):
    return sum(2 ** thing for thing in set(things))


def led_to(many, pairs):
    """All (a, b) such that a row of the pairs, at least one, leads from a to b."""
    led = set()
    for start in range(many):
        reached = {b for a, b in pairs if a == start}
        while True:
            further = reached | {b for a, b in pairs if a in reached}
            if further == reached:
                break
            reached = further
        led |= {(start, end) for end in reached}
    return led


def at_or_beneath(order):
    """All (a, b) of the order with a at or beneath b."""
    things = range(len(order))
    return {(a, b) for a in things for b in things if order[b] // 2 ** a % 2 == 1}


def order_of(many, pairs):
    """The order whose pairs "at or beneath" are these."""
    return tuple(mask_of(a for a in range(many) if (a, b) in pairs) for b in range(many))


def makes_order(many, pairs):
    """Whether these are the pairs "at or beneath" of an order of so many things."""
    own = all((a, a) in pairs for a in range(many))
    twice = any((b, a) in pairs for a, b in pairs if a != b)
    return own and not twice and led_to(many, pairs) == pairs


def is_ring(pairs, ring):
    steps = list(zip(ring, ring[1:] + ring[:1]))
    return len(ring) >= 1 and len(set(ring)) == len(ring) and all(step in pairs for step in steps)


def all_orders(many):
    """All orders of so many things, at most 3, found among all sets of pairs."""
    ways = list(itertools.product(range(many), repeat=2))
    found = []
    for picks in itertools.product((False, True), repeat=len(ways)):
        pairs = {way for way, picked in zip(ways, picks) if picked}
        if makes_order(many, pairs):
            found.append(order_of(many, pairs))
    return found


def ringless_pairs(source, many):
    """Pairs without a ring, of things numbered in any way, in any order, some twice, some that follow."""
    line = list(range(many))
    source.shuffle(line)
    ways = [(line[i], line[k]) for k in range(many) for i in range(k)]
    share = source.choice((0.05, 0.15, 0.3, 0.6, 1))
    pairs = [way for way in ways if source.random() < share]
    pairs += [pair for pair in pairs if source.random() < 0.2]
    pairs += [pair for pair in sorted(led_to(many, pairs)) if source.random() < 0.2]
    source.shuffle(pairs)
    return pairs


def mixed_orders():
    """Orders of each size from 0 to 16, the same ones on every call."""
    source = random.Random(1016)
    orders = all_orders(0) + all_orders(1) + all_orders(2) + all_orders(3)
    for many in range(4, 17):
        for turn in range(6):
            led = led_to(many, ringless_pairs(source, many))
            orders.append(order_of(many, led | {(a, a) for a in range(many)}))
        orders.append(tuple(2 ** b for b in range(many)))
        orders.append(tuple(2 ** (b + 1) - 1 for b in range(many)))
    return orders


def things_between(order):
    """For each pair (a, b) with a at or beneath b all things between them."""
    pairs = at_or_beneath(order)
    things = range(len(order))
    return {(a, b): [c for c in things if (a, c) in pairs and (c, b) in pairs] for a, b in pairs}


def table_of(many, numbers):
    """The table whose numbers other than 0 stand in a dict by pairs."""
    return tuple(tuple(numbers.get((a, b), 0) for b in range(many)) for a in range(many))


def unit_over(order):
    return table_of(len(order), {(a, a): 1 for a in range(len(order))})


def product_over(order, one, other):
    numbers = {}
    for (a, b), things in things_between(order).items():
        numbers[a, b] = 0
        for c in things:
            numbers[a, b] += one[a][c] * other[c][b]
    return table_of(len(order), numbers)


def signs_over(order):
    """The numbers for (a, b) from those for all (a, c) with fewer things between, by the sum that is 0."""
    between = things_between(order)
    numbers = {}
    for a, b in sorted(between, key=lambda pair: len(between[pair])):
        numbers[a, b] = 1 if a == b else -sum(numbers[a, c] for c in between[a, b] if c != b)
    return table_of(len(order), numbers)


def chains_from_to(order, a, b):
    """All chains from a to b, ascending."""
    less = {pair for pair in at_or_beneath(order) if pair[0] != pair[1]}
    found = []
    begun = [(a,)]
    while begun:
        found += [chain for chain in begun if chain[-1] == b]
        begun = [chain + (c,) for chain in begun for c in range(len(order))
                 if (chain[-1], c) in less and (c == b or (c, b) in less)]
    return sorted(found)


def put_together(one, other, is_beneath):
    """The order of all pairs of a thing of the one and one of the other, ascending, beneath each other as told."""
    things = list(itertools.product(range(len(one)), range(len(other))))
    pairs = {(i, k) for i, low in enumerate(things) for k, high in enumerate(things) if is_beneath(low, high)}
    return order_of(len(things), pairs)


def laid_together(one, other, across):
    """The other's things behind those of the one; `across` tells whether each of the one is beneath each of it."""
    behind = len(one)
    pairs = at_or_beneath(one) | {(behind + a, behind + b) for a, b in at_or_beneath(other)}
    if across:
        pairs |= {(a, behind + b) for a in range(len(one)) for b in range(len(other))}
    return order_of(len(one) + len(other), pairs)


def renumbers(one, other, row):
    """Whether the row renumbers the one to the other."""
    return sorted(row) == list(range(len(one))) and \
        {(row[a], row[b]) for a, b in at_or_beneath(one)} == at_or_beneath(other)


def least_row_of_all(one, other):
    """The first of all rows, gone through in ascending order, that renumbers the one to the other, or None."""
    if len(one) != len(other):
        return None
    for row in itertools.permutations(range(len(one))):
        if renumbers(one, other, row):
            return list(row)
    return None


def least_row(one, other):
    """The same, but that what begins otherwise than any such row is left out."""
    pairs, other_pairs = at_or_beneath(one), at_or_beneath(other)
    things = range(len(one))

    def around(pairs, thing):
        return sum(a == thing for a, b in pairs), sum(b == thing for a, b in pairs)

    kinds, other_kinds = ([around(of, thing) for thing in things] for of in (pairs, other_pairs))

    def fits(row, k, image):
        return kinds[k] == other_kinds[image] and all(
            ((i, k) in pairs) == ((j, image) in other_pairs) and ((k, i) in pairs) == ((image, j) in other_pairs)
            for i, j in enumerate(row))

    def going_on(row):
        if len(row) == len(one):
            return row
        for image in things:
            if image not in row and fits(row, len(row), image):
                found = going_on(row + [image])
                if found is not None:
                    return found
        return None

    return going_on([]) if len(one) == len(other) else None


def turned_pairs(pairs):
    return {(b, a) for a, b in pairs}


def things_under(many, pairs, a, b):
    return [x for x in range(many) if (x, a) in pairs and (x, b) in pairs]


def meet_in(many, pairs, a, b):
    """The meet of a and b, or None; with the pairs turned it is their join."""
    under = things_under(many, pairs, a, b)
    found = [x for x in under if all((y, x) in pairs for y in under)]
    return found[0] if found else None


def meet_bar_in(many, pairs, a, b):
    """The bar of the meet, None where there is a meet; with the pairs turned that of the join."""
    if meet_in(many, pairs, a, b) is not None:
        return None
    under = things_under(many, pairs, a, b)
    if not under:
        return ()
    open_above = [x for x in under if not any((x, y) in pairs for y in under if y != x)]
    return min((x, y) for x in open_above for y in open_above if x < y)


def lattice_bar_over(order):
    """The least of all triples of point 51, None where there is none and a thing is there."""
    many, pairs = len(order), at_or_beneath(order)
    if many == 0:
        return ()
    words = (("join", turned_pairs(pairs)), ("meet", pairs))
    triples = [(a, b, word) for a in range(many) for b in range(a, many) for word, way in words
               if meet_in(many, way, a, b) is None]
    return min(triples, default=None)


def rows_in(many, pairs):
    """For each two things of a lattice their meet; with the pairs turned their join."""
    return [[meet_in(many, pairs, a, b) for b in range(many)] for a in range(many)]


def spread_bar_over(order):
    """The least of all triples of point 52, None where there is none; of a lattice."""
    many, pairs = len(order), at_or_beneath(order)
    meets, joins = rows_in(many, pairs), rows_in(many, turned_pairs(pairs))
    triples = [(a, b, c) for a, b, c in itertools.product(range(many), repeat=3)
               if meets[a][joins[b][c]] != joins[meets[a][b]][meets[a][c]]]
    return min(triples, default=None)
