"""Orders of things: a tuple of masks, at place b the set of all things at or beneath b."""

from sumsway.errors import NoOrder, NoRow, NoThing, Ring
from sumsway.sets import many_in, set_of, things_in

MOST_THINGS = 16


def made_order(many, pairs):
    if many < 0 or many > MOST_THINGS:
        raise NoOrder(f"an order has from 0 to {MOST_THINGS} things, not {many}")
    told = told_beneath(many, pairs)
    masks = [0] * many
    left = (1 << many) - 1
    while left != 0:
        ready = [b for b in things_in(left) if told[b] & left == 0]
        if ready == []:
            raise Ring("the pairs have a ring", ring_among(told, left))
        for b in ready:
            masks[b] = with_all_beneath(masks, b, told[b])
        left = left ^ set_of(ready)
    return tuple(masks)


def told_beneath(many, pairs):
    told = [0] * many
    for a, b in pairs:
        check_thing(many, a)
        check_thing(many, b)
        told[b] = told[b] | (1 << a)
    return told


def with_all_beneath(masks, b, lower):
    mask = 1 << b
    for a in things_in(lower):
        mask = mask | masks[a]
    return mask


def ring_among(told, left):
    # Each thing that is left has another one told beneath it that is left, or itself:
    # a walk down never ends, so it comes back to a thing it was at.
    walk = []
    thing = things_in(left)[0]
    while thing not in walk:
        walk.append(thing)
        thing = things_in(told[thing] & left)[0]
    # The walk went down, and a ring's pairs lead up.
    return list(reversed(walk[walk.index(thing):]))


def check_thing(many, thing):
    if thing < 0 or thing >= many:
        raise NoThing(f"{thing} is no thing of an order of {many}")


def is_order(masks):
    many = len(masks)
    if many > MOST_THINGS:
        return False
    # All masks first: only then is each thing in one of them a place of the tuple.
    if not all([is_set_with(many, masks[b], b) for b in range(many)]):
        return False
    return all([holds_those_beneath(masks, b) for b in range(many)])


def is_set_with(many, mask, b):
    return 0 <= mask and mask < (1 << many) and (mask >> b) & 1 == 1


def holds_those_beneath(masks, b):
    for a in things_in(masks[b] ^ (1 << b)):
        if masks[a] | masks[b] != masks[b] or (masks[a] >> b) & 1 == 1:
            return False
    return True


def beneath(order, b):
    check_thing(len(order), b)
    return order[b] ^ (1 << b)


def above(order, a):
    check_thing(len(order), a)
    return at_or_above(order, a) ^ (1 << a)


def between(order, a, b):
    check_thing(len(order), a)
    check_thing(len(order), b)
    return at_or_above(order, a) & order[b]


def at_or_above(order, a):
    return set_of([b for b in range(len(order)) if (order[b] >> a) & 1 == 1])


def next_pairs(order):
    pairs = []
    for a in range(len(order)):
        higher = at_or_above(order, a)
        # Where a is right beneath b, these two alone are between.
        pairs.extend([(a, b) for b in things_in(higher) if many_in(higher & order[b]) == 2])
    return pairs


def least_things(order):
    return set_of([b for b in range(len(order)) if order[b] == 1 << b])


def greatest_things(order):
    return least_things(upside_down(order))


def upside_down(order):
    return tuple([at_or_above(order, a) for a in range(len(order))])


def kept_to(order, mask):
    kept = things_in(mask)
    return tuple([places_within(kept, order[b]) for b in kept])


def places_within(things, mask):
    return set_of([k for k in range(len(things)) if (mask >> things[k]) & 1 == 1])


def renumbered(order, row):
    if sorted(row) != list(range(len(order))):
        raise NoRow("each thing stands once in a row that renumbers")
    masks = [0] * len(order)
    for b in range(len(order)):
        masks[row[b]] = set_of([row[a] for a in things_in(order[b])])
    return tuple(masks)
