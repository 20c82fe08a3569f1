import itertools
import random
import unittest

from sumsway.errors import NoOrder, NoThing, Ring, SumError
from sumsway.orders import is_order, made_order
from tests.plain import all_orders, at_or_beneath, is_ring, led_to, makes_order, mixed_orders, order_of, ringless_pairs

FAR = 10 ** 60


def order_by_pairs(many, pairs):
    return order_of(many, led_to(many, pairs) | {(a, a) for a in range(many)})


class MadeOrders(unittest.TestCase):
    def test_by_hand(self):
        self.assertEqual(made_order(4, [(0, 1), (0, 2), (1, 3), (2, 3)]), (0b1, 0b11, 0b101, 0b1111))
        self.assertEqual(made_order(3, [(2, 1), (1, 0)]), (0b111, 0b110, 0b100))

    def test_no_things_and_one(self):
        self.assertEqual(made_order(0, []), ())
        self.assertEqual(made_order(1, []), (1,))

    def test_no_pairs(self):
        for many in range(17):
            self.assertEqual(made_order(many, []), tuple(2 ** b for b in range(many)))

    def test_sixteen_things_in_one_line(self):
        up = [(k, k + 1) for k in range(15)]
        line = tuple(2 ** (b + 1) - 1 for b in range(16))
        self.assertEqual(made_order(16, up), line)
        self.assertEqual(made_order(16, up[::-1]), line)
        self.assertEqual(made_order(16, [(a, b) for a in range(16) for b in range(16) if a < b]), line)
        down = [(k + 1, k) for k in range(15)]
        self.assertEqual(made_order(16, down), tuple(2 ** 16 - 2 ** b for b in range(16)))

    def test_pairs_twice_and_pairs_that_follow(self):
        line = (0b1, 0b11, 0b111)
        self.assertEqual(made_order(3, [(1, 2), (0, 1), (1, 2), (0, 1)]), line)
        self.assertEqual(made_order(3, [(0, 2), (1, 2), (0, 1)]), line)

    def test_any_pairs_of_up_to_three_things(self):
        for many in range(4):
            ways = list(itertools.product(range(many), repeat=2))
            for picks in itertools.product((False, True), repeat=len(ways)):
                self.check([way for way, picked in zip(ways, picks) if picked], many)

    def test_pairs_of_any_number_of_things(self):
        source = random.Random(11)
        for many in range(17):
            for turn in range(25):
                pairs = ringless_pairs(source, many)
                self.assertEqual(made_order(many, pairs), order_by_pairs(many, pairs))

    def test_pairs_by_chance_with_rings_and_without(self):
        source = random.Random(12)
        for many in range(1, 17):
            for turn in range(25):
                count = source.randrange(2 * many + 1)
                self.check([(source.randrange(many), source.randrange(many)) for k in range(count)], many)

    def check(self, pairs, many):
        led = led_to(many, pairs)
        if not any((a, a) in led for a in range(many)):
            self.assertEqual(made_order(many, pairs), order_by_pairs(many, pairs))
            return
        with self.assertRaises(Ring) as caught:
            made_order(many, pairs)
        self.assertIs(type(caught.exception.ring), list)
        self.assertTrue(is_ring(pairs, caught.exception.ring), (pairs, caught.exception.ring))

    def test_kinds(self):
        order = made_order(3, [(0, 1)])
        self.assertIs(type(order), tuple)
        self.assertEqual({type(mask) for mask in order}, {int})

    def test_the_pairs_stay_as_they_were(self):
        pairs = [(2, 0), (0, 1), (2, 0)]
        order = made_order(3, pairs)
        self.assertEqual(pairs, [(2, 0), (0, 1), (2, 0)])
        pairs.append((1, 2))
        pairs[0] = (1, 0)
        self.assertEqual(order, (0b101, 0b111, 0b100))
        for many, wrong in ((-1, [(0, 1)]), (2, [(0, 1), (1, 0)]), (2, [(0, 1), (0, 2)])):
            before = list(wrong)
            with self.assertRaises(SumError):
                made_order(many, wrong)
            self.assertEqual(wrong, before)


class RefusedPairs(unittest.TestCase):
    def test_counts_out_of_bounds_whatever_the_pairs(self):
        for many in (-FAR, -17, -2, -1, 17, 18, 100, FAR):
            for pairs in ([], [(0, 1)], [(0, 0)], [(0, 1), (1, 0)], [(-1, 40)], [(FAR, -FAR)]):
                with self.subTest(many=many, pairs=pairs), self.assertRaises(NoOrder):
                    made_order(many, pairs)

    def test_numbers_that_are_no_things(self):
        for many in (0, 1, 2, 5, 16):
            for wrong in (-FAR, -many - 1, -2, -1, many, many + 1, 16, 64, 1000, FAR):
                other = max(many - 1, 0)
                for pair in ((wrong, other), (other, wrong), (wrong, wrong)):
                    with self.subTest(many=many, pair=pair), self.assertRaises(NoThing):
                        made_order(many, [pair])

    def test_no_thing_goes_ahead_of_a_ring(self):
        for wrong in (-1, 3, FAR, -FAR):
            for pair in ((wrong, 0), (0, wrong), (wrong, wrong)):
                for ring in ([(0, 0)], [(0, 1), (1, 0)], [(0, 1), (1, 2), (2, 0)]):
                    with self.assertRaises(NoThing):
                        made_order(3, ring + [pair])
                    with self.assertRaises(NoThing):
                        made_order(3, [pair] + ring)

    def ring_told(self, many, pairs):
        with self.assertRaises(Ring) as caught:
            made_order(many, pairs)
        return caught.exception.ring

    def test_a_ring_of_one_thing(self):
        for many in (1, 2, 16):
            self.assertEqual(self.ring_told(many, [(many - 1, many - 1)]), [many - 1])
        self.assertEqual(self.ring_told(4, [(0, 1), (2, 2), (1, 3)]), [2])

    def test_rings_of_several_things(self):
        self.assertIn(self.ring_told(2, [(0, 1), (1, 0)]), ([0, 1], [1, 0]))
        self.assertIn(self.ring_told(4, [(0, 3), (3, 1), (1, 0)]), ([0, 3, 1], [3, 1, 0], [1, 0, 3]))
        for many in range(2, 17):
            pairs = [(k, (k + 1) % many) for k in range(many)]
            ring = self.ring_told(many, pairs)
            self.assertEqual(sorted(ring), list(range(many)))
            self.assertTrue(is_ring(pairs, ring))

    def test_a_ring_with_things_beneath_it_and_above_it(self):
        pairs = [(0, 1), (1, 2), (2, 3), (3, 4), (4, 2), (4, 5), (5, 6)]
        self.assertIn(self.ring_told(7, pairs), ([2, 3, 4], [3, 4, 2], [4, 2, 3]))

    def test_a_ring_leads_along_pairs_that_were_told(self):
        pairs = [(0, 1), (1, 2), (2, 3), (3, 0), (0, 4), (4, 5)]
        self.assertTrue(is_ring(pairs, self.ring_told(6, pairs)))

    def test_the_ring_is_the_askers_own(self):
        pairs = [(0, 1), (1, 0)]
        ring = self.ring_told(2, pairs)
        before = list(ring)
        ring.append(9)
        self.assertEqual(self.ring_told(2, pairs), before)


class IsOrder(unittest.TestCase):
    def test_all_tuples_of_up_to_three_masks(self):
        for many in range(4):
            orders = set(all_orders(many))
            for masks in itertools.product(range(-2, 2 ** many + 3), repeat=many):
                self.assertIs(is_order(masks), masks in orders, masks)

    def test_how_many_orders_there_are(self):
        counts = [sum(is_order(masks) for masks in itertools.product(range(2 ** many), repeat=many))
                  for many in range(5)]
        self.assertEqual(counts, [1, 1, 3, 19, 219])

    def test_orders_of_every_size(self):
        for order in mixed_orders():
            self.assertIs(is_order(order), True)

    def test_orders_with_one_bit_turned(self):
        source = random.Random(13)
        for order in mixed_orders():
            ways = list(itertools.product(range(len(order)), repeat=2))
            for a, b in source.sample(ways, min(len(ways), 16)):
                masks = order[:b] + (order[b] ^ 2 ** a,) + order[b + 1:]
                expected = makes_order(len(order), at_or_beneath(order) ^ {(a, b)})
                self.assertIs(is_order(masks), expected, masks)

    def test_by_hand(self):
        self.assertIs(is_order(()), True)
        self.assertIs(is_order((1,)), True)
        self.assertIs(is_order((0,)), False)
        self.assertIs(is_order((0b01, 0b00)), False)
        self.assertIs(is_order((0b11, 0b11)), False)
        self.assertIs(is_order((0b001, 0b011, 0b110)), False)
        self.assertIs(is_order((0b001, 0b011, 0b111)), True)

    def test_masks_below_nought(self):
        for wrong in (-1, -2, -3, -4, -FAR):
            self.assertIs(is_order((wrong,)), False)
            self.assertIs(is_order((wrong, 2)), False)
            self.assertIs(is_order((1, wrong)), False)

    def test_bits_beyond_the_things(self):
        for far in (1, 2, 16, 17, 64, 199, 300):
            self.assertIs(is_order((1 + 2 ** far,)), False)
        self.assertIs(is_order((0b101, 0b010)), False)
        self.assertIs(is_order((0b001, 0b110)), False)
        self.assertIs(is_order((FAR, FAR)), False)
        self.assertIs(is_order(tuple(2 ** b for b in range(15)) + (2 ** 15 + 2 ** 16,)), False)

    def test_more_than_sixteen_masks(self):
        for many in (17, 18, 40, 200):
            self.assertIs(is_order(tuple(2 ** b for b in range(many))), False)
            self.assertIs(is_order(tuple(2 ** (b + 1) - 1 for b in range(many))), False)
        self.assertIs(is_order(tuple(2 ** b for b in range(16))), True)


if __name__ == "__main__":
    unittest.main()
