"""Meets and joins of two things, and what bars two things from having one."""

from sumsway.errors import NoJoin, NoMeet
from sumsway.orders import beneath, check_thing, upside_down
from sumsway.sets import things_in


def meet(order, a, b):
    highest = highest_under(order, a, b)
    if len(highest) != 1:
        raise NoMeet(f"{a} and {b} have no meet")
    return highest[0]


def join(order, a, b):
    lowest = highest_under(upside_down(order), a, b)
    if len(lowest) != 1:
        raise NoJoin(f"{a} and {b} have no join")
    return lowest[0]


def meet_bar(order, a, b):
    highest = highest_under(order, a, b)
    return None if len(highest) == 1 else tuple(highest[:2])


def join_bar(order, a, b):
    return meet_bar(upside_down(order), a, b)


def highest_under(order, a, b):
    check_thing(len(order), a)
    check_thing(len(order), b)
    # Where just one thing is highest, each other one of them has a higher one, and so on up to it:
    # all are beneath it.
    return highest_in(order, order[a] & order[b])


def highest_in(order, mask):
    lower = 0
    for x in things_in(mask):
        lower = lower | beneath(order, x)
    return things_in(mask ^ (mask & lower))
