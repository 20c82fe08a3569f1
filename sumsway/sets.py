"""Sets of things as masks: the bit worth 2 ** k is there just where thing k is in the set."""


def things_in(mask):
    return [k for k in range(mask.bit_length()) if (mask >> k) & 1 == 1]


def set_of(things):
    mask = 0
    for thing in things:
        mask = mask | (1 << thing)
    return mask


def many_in(mask):
    return len(things_in(mask))


def subsets(mask):
    found = [0]
    for thing in things_in(mask):
        # The things come ascending, so all sets with this one are greater than those without it:
        # put behind them they need no sorting.
        found = found + [one | (1 << thing) for one in found]
    return found
