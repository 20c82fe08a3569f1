"""Orders put together: their product, side by side, heaped, and an order with a bottom or a top."""

from sumsway.errors import TooMany
from sumsway.orders import MOST_THINGS
from sumsway.sets import things_in

ONE_THING = (1,)


def product(one, other):
    check_many(len(one) * len(other))
    masks = []
    for lower in one:
        masks.extend([pairs_of(lower, other_lower, len(other)) for other_lower in other])
    return tuple(masks)


def pairs_of(lower, other_lower, many):
    pairs = 0
    for a in things_in(lower):
        # The pairs of a stand together, one for each of the other order's many things.
        pairs = pairs | (other_lower << (a * many))
    return pairs


def side_by_side(one, other):
    check_many(len(one) + len(other))
    return one + tuple([lower << len(one) for lower in other])


def heaped(one, other):
    check_many(len(one) + len(other))
    all_of_one = (1 << len(one)) - 1
    return one + tuple([(lower << len(one)) | all_of_one for lower in other])


def with_bottom(order):
    return heaped(ONE_THING, order)


def with_top(order):
    return heaped(order, ONE_THING)


def check_many(many):
    if many > MOST_THINGS:
        raise TooMany(f"an order has at most {MOST_THINGS} things, not {many}")
