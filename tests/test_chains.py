import itertools
import random
import unittest

from sumsway.chains import chain_many, chain_numbered, chains_by_steps, number_of_chain
from sumsway.errors import NoSuch, NoThing, SumError
from sumsway.orders import made_order
from tests.plain import at_or_beneath, chains_from_to
from tests.shaped import FAR, ORDERS, shaped_orders

# 0 beneath 1 and 2, both beneath 3, 3 beneath 4, and 5 by itself.
KITE = made_order(6, [(0, 1), (0, 2), (1, 3), (2, 3), (3, 4)])
# 2 beneath 0, and 0 beneath 1.
LINE = (0b101, 0b111, 0b100)
LONG = tuple(2 ** (b + 1) - 1 for b in range(16))
SHAPED = shaped_orders()


def pairs_of_things(order):
    return itertools.product(range(len(order)), repeat=2)


def wrong_things(many):
    return [wrong for wrong in (-FAR, -17, -many - 1, -many, -1, many, many + 1, 16, 17, 200, FAR)
            if not 0 <= wrong < many]


def steps_counted(chains):
    """The list of how many of the chains have 0, 1, .. steps."""
    return [sum(len(chain) == k + 1 for chain in chains) for k in range(max(map(len, chains), default=0))]


class CountedChains(unittest.TestCase):
    def test_by_hand(self):
        self.assertEqual(chains_by_steps(KITE, 0, 3), [0, 1, 2])
        self.assertEqual(chains_by_steps(KITE, 0, 4), [0, 1, 3, 2])
        self.assertEqual(chains_by_steps(KITE, 1, 3), [0, 1])
        self.assertEqual(chain_many(KITE, 0, 4), 6)
        self.assertEqual(chains_by_steps(LINE, 2, 1), [0, 1, 1])

    def test_a_thing_and_itself(self):
        for order in ORDERS:
            for thing in range(len(order)):
                self.assertEqual(chains_by_steps(order, thing, thing), [1])
                self.assertEqual(chain_many(order, thing, thing), 1)

    def test_where_there_is_none(self):
        for a, b in ((1, 2), (3, 0), (0, 5), (5, 4), (4, 0)):
            self.assertEqual(chains_by_steps(KITE, a, b), [])
            self.assertEqual(chain_many(KITE, a, b), 0)

    def test_a_line_of_sixteen(self):
        self.assertEqual(chains_by_steps(LONG, 0, 15),
                         [0, 1, 14, 91, 364, 1001, 2002, 3003, 3432, 3003, 2002, 1001, 364, 91, 14, 1])
        self.assertEqual(chain_many(LONG, 0, 15), 2 ** 14)

    def test_all_pairs_of_orders_of_every_size(self):
        for order in ORDERS:
            for a, b in pairs_of_things(order):
                chains = chains_from_to(order, a, b)
                self.assertEqual(chains_by_steps(order, a, b), steps_counted(chains))
                self.assertEqual(chain_many(order, a, b), len(chains))

    def test_numbers_that_are_no_things(self):
        for order in ((), (1,), LINE, KITE, LONG):
            for wrong in wrong_things(len(order)):
                for told in (chains_by_steps, chain_many):
                    with self.subTest(order=order, wrong=wrong):
                        self.assertRaises(NoThing, told, order, wrong, wrong)
                        for right in range(len(order)):
                            self.assertRaises(NoThing, told, order, wrong, right)
                            self.assertRaises(NoThing, told, order, right, wrong)

    def test_kinds(self):
        for a, b in pairs_of_things(KITE):
            self.assertIs(type(chains_by_steps(KITE, a, b)), list)
            self.assertLessEqual({type(count) for count in chains_by_steps(KITE, a, b)}, {int})
            self.assertIs(type(chain_many(KITE, a, b)), int)

    def test_no_two_answers_share_a_list(self):
        for a, b in ((0, 4), (0, 0), (4, 0)):
            one, other = chains_by_steps(KITE, a, b), chains_by_steps(KITE, a, b)
            before = list(other)
            one.append(9)
            one[0] = 8
            self.assertEqual(other, before)
            self.assertEqual(chains_by_steps(KITE, a, b), before)


class NumberedChains(unittest.TestCase):
    def test_by_hand(self):
        chains = [(0, 1, 3, 4), (0, 1, 4), (0, 2, 3, 4), (0, 2, 4), (0, 3, 4), (0, 4)]
        self.assertEqual([chain_numbered(KITE, 0, 4, number) for number in range(6)], chains)
        self.assertEqual([number_of_chain(KITE, chain) for chain in chains], list(range(6)))
        self.assertEqual(chain_numbered(LINE, 2, 1, 0), (2, 0, 1))
        self.assertEqual(chain_numbered(LINE, 2, 1, 1), (2, 1))

    def test_the_order_is_that_of_tuples_not_of_beneath(self):
        # Thing 3 is beneath 2, 2 beneath 1, 1 beneath 0.
        line = made_order(4, [(3, 2), (2, 1), (1, 0)])
        chains = [(3, 0), (3, 1, 0), (3, 2, 0), (3, 2, 1, 0)]
        self.assertEqual([chain_numbered(line, 3, 0, number) for number in range(4)], chains)
        self.assertEqual([number_of_chain(line, chain) for chain in chains], list(range(4)))

    def test_a_thing_and_itself(self):
        for order in ORDERS:
            for thing in range(len(order)):
                self.assertEqual(chain_numbered(order, thing, thing, 0), (thing,))
                self.assertEqual(number_of_chain(order, (thing,)), 0)

    def test_every_chain_of_orders_of_up_to_seven_things(self):
        for order in ORDERS:
            for a, b in pairs_of_things(order if len(order) < 8 else ()):
                for number, chain in enumerate(chains_from_to(order, a, b)):
                    self.assertEqual(chain_numbered(order, a, b, number), chain)
                    self.assertEqual(number_of_chain(order, chain), number)

    def test_some_chains_of_orders_of_every_size(self):
        source = random.Random(320)
        for order in ORDERS:
            for a, b in source.sample(sorted(at_or_beneath(order)), min(len(order), 12)):
                chains = chains_from_to(order, a, b)
                last = len(chains) - 1
                for number in {0, last, last // 2, source.randint(0, last)}:
                    chain = chain_numbered(order, a, b, number)
                    self.assertEqual(chain, chains[number])
                    self.assertIs(type(chain), tuple)
                    self.assertEqual(number_of_chain(order, chain), number)

    def test_somewhat_beyond_the_bounds(self):
        line = tuple(2 ** (b + 1) - 1 for b in range(18))
        self.assertEqual(chain_many(line, 0, 17), 2 ** 16)
        self.assertEqual(chain_numbered(line, 0, 17, 2 ** 16 - 1), (0, 17))
        self.assertEqual(number_of_chain(line, tuple(range(18))), 0)

    def test_arguments_by_their_names(self):
        self.assertEqual(chains_by_steps(order=KITE, a=0, b=3), [0, 1, 2])
        self.assertEqual(chain_many(order=KITE, a=0, b=3), 3)
        self.assertEqual(chain_numbered(order=KITE, a=0, b=3, number=2), (0, 3))
        self.assertEqual(number_of_chain(order=KITE, chain=(0, 3)), 2)


class RefusedChains(unittest.TestCase):
    def test_numbers_of_no_chain(self):
        for order in SHAPED:
            for a, b in itertools.islice(pairs_of_things(order), 0, None, 5):
                many = len(chains_from_to(order, a, b))
                for number in (-FAR, -many - 1, -many, -1, many, many + 1, FAR):
                    if not 0 <= number < many:
                        with self.assertRaises(NoSuch, msg=(order, a, b, number)):
                            chain_numbered(order, a, b, number)

    def test_no_thing_goes_ahead_of_no_such(self):
        for order in ((), (1,), LINE, KITE, LONG):
            for wrong in wrong_things(len(order)):
                for number in (-FAR, -1, 0, 1, FAR):
                    self.assertRaises(NoThing, chain_numbered, order, wrong, wrong, number)
                    for right in range(len(order)):
                        self.assertRaises(NoThing, chain_numbered, order, wrong, right, number)
                        self.assertRaises(NoThing, chain_numbered, order, right, wrong, number)

    def test_the_empty_tuple(self):
        for order in SHAPED:
            self.assertRaises(NoSuch, number_of_chain, order, ())

    def test_tuples_with_numbers_that_are_no_things(self):
        for order in ((), (1,), LINE, KITE, LONG):
            for wrong in wrong_things(len(order)):
                self.assertRaises(NoSuch, number_of_chain, order, (wrong,))
                self.assertRaises(NoSuch, number_of_chain, order, (wrong, wrong))
                for a, b in pairs_of_things(order):
                    for chain in ((wrong, a), (a, wrong), (wrong, a, b), (a, wrong, b), (a, b, wrong)):
                        self.assertRaises(NoSuch, number_of_chain, order, chain)

    def test_a_number_below_nought_is_not_counted_from_the_end(self):
        # -1 in the place of 15, and so on, would make chains of these.
        for chain in ((0, -1), (-16, 15), (0, -8, 15), (-16, -1)):
            self.assertRaises(NoSuch, number_of_chain, LONG, chain)

    def test_all_tuples_of_up_to_four_small_numbers(self):
        for order in (LINE, (0b001, 0b010, 0b111), (0b001, 0b011, 0b101)):
            less = {(a, b) for a, b in at_or_beneath(order) if a != b}
            for many in range(1, 5):
                for chain in itertools.product(range(-1, 4), repeat=many):
                    right = all(step in less for step in zip(chain, chain[1:]))
                    if right and all(0 <= thing < 3 for thing in chain):
                        chains = chains_from_to(order, chain[0], chain[-1])
                        self.assertEqual(number_of_chain(order, chain), chains.index(chain))
                    else:
                        self.assertRaises(NoSuch, number_of_chain, order, chain)

    def test_things_twice_and_chains_turned_round(self):
        for chain in ((0, 0), (0, 1, 1, 3), (0, 3, 3), (3, 1, 0), (4, 0), (0, 1, 2, 3), (1, 2), (0, 5), (0, 4, 3)):
            self.assertRaises(NoSuch, number_of_chain, KITE, chain)
        self.assertRaises(NoSuch, number_of_chain, LONG, tuple(range(16)) + (15,))
        self.assertRaises(NoSuch, number_of_chain, LONG, tuple(range(16)) * 2)
        self.assertTrue(issubclass(NoSuch, SumError))


if __name__ == "__main__":
    unittest.main()
