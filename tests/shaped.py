"""Orders of several shapes, of each size from 0 to 16, and tables and rows over them: the same ones on every call."""

import random

from tests.plain import at_or_beneath, led_to, mixed_orders, order_of

FAR = 10 ** 60


def loose(many):
    """So many things, none beneath another."""
    return tuple(2 ** b for b in range(many))


def line(many):
    """So many things, each beneath all greater ones."""
    return tuple(2 ** (b + 1) - 1 for b in range(many))


def loose_pairs(source, many):
    return []


def line_pairs(source, many):
    return [(k, k + 1) for k in range(many - 1)]


def tree_pairs(source, many):
    return [(source.randrange(k), k) for k in range(1, many)]


def hanging_tree_pairs(source, many):
    return [(b, a) for a, b in tree_pairs(source, many)]


def layer_pairs(source, many):
    layers = []
    while len(layers) < many:
        layers += [len(layers)] * source.randint(1, 4)
    return [(a, b) for a in range(many) for b in range(many) if layers[a] < layers[b]]


def cube_pairs(source, many):
    corners = source.sample(range(16 if many > 12 else 32), many)
    return [(a, b) for a in range(many) for b in range(many) if a != b and corners[a] & corners[b] == corners[a]]


SHAPES = (loose_pairs, line_pairs, tree_pairs, hanging_tree_pairs, layer_pairs, cube_pairs)


def shaped_orders():
    """Each shape in each size, its things numbered in any way."""
    source = random.Random(2030)
    orders = []
    for many in range(17):
        for shape in SHAPES:
            row = source.sample(range(many), many)
            led = {(row[a], row[b]) for a, b in led_to(many, shape(source, many))}
            orders.append(order_of(many, led | {(a, a) for a in range(many)}))
    return orders


ORDERS = tuple(mixed_orders() + shaped_orders())


def order_of_sets(source, sets):
    """Sets, some within others, as an order whose things are numbered in any way."""
    line = source.sample(sets, len(sets))
    things = range(len(line))
    return order_of(len(line), {(a, b) for a in things for b in things if line[a] & line[b] == line[a]})


def closed_sets(source, also_joined):
    """A few sets, what any of them share, and, where told, what any of them have together."""
    whole = 2 ** source.randint(0, 6) - 1
    sets = {source.randint(0, whole) for turn in range(source.randint(0, 6))} | {whole}
    while True:
        more = sets | {one & other for one in sets for other in sets}
        if also_joined:
            more |= {one | other for one in sets for other in sets}
        if more == sets:
            return sorted(sets)
        sets = more


def lattices_by_chance():
    """Lattices of each size from 1 to 16, each second one spread: sets with what they share are a lattice."""
    source = random.Random(5051)
    found = {(many, joined): [] for many in range(1, 17) for joined in (False, True)}
    while any(len(orders) < 6 for orders in found.values()):
        joined = source.random() < 0.5
        sets = closed_sets(source, joined)
        if len(sets) <= 16 and len(found[len(sets), joined]) < 6:
            found[len(sets), joined].append(order_of_sets(source, sets))
    return [order for orders in found.values() for order in orders]


LATTICES = tuple(lattices_by_chance())


def number_by_chance(source):
    return source.choice((0, 1, -1, source.randint(-9, 9), source.randint(-FAR, FAR), FAR, -FAR))


def table_by_chance(source, order, own=None):
    """A table over the order; each thing's own number is one of `own`, where these are told."""
    pairs = at_or_beneath(order)
    rows = []
    for a in range(len(order)):
        rows.append(tuple(number_by_chance(source) if (a, b) in pairs else 0 for b in range(len(order))))
    if own is None:
        return tuple(rows)
    return tuple(row[:a] + (source.choice(own),) + row[a + 1:] for a, row in enumerate(rows))


def row_by_chance(source, order):
    return [number_by_chance(source) for thing in order]
