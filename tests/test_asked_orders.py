import unittest

from sumsway.errors import NoThing
from sumsway.orders import above, beneath, between, greatest_things, least_things, made_order, next_pairs
from tests.plain import at_or_beneath, mask_of, mixed_orders

FAR = 10 ** 60
# Thing 0 beneath all but 5; 1 and 2 side by side beneath 3, and 3 beneath 4; 5 by itself.
KITE = made_order(6, [(0, 1), (0, 2), (1, 3), (2, 3), (3, 4), (0, 4)])


def wrong_things(many):
    return (-FAR, -17, -many - 1, -many, -1, many, many + 1, 16, 17, 200, FAR) if many else (-FAR, -1, 0, 1, FAR)


class BeneathAboveBetween(unittest.TestCase):
    def test_by_hand(self):
        self.assertEqual([beneath(KITE, b) for b in range(6)], [0, 0b1, 0b1, 0b111, 0b1111, 0])
        self.assertEqual([above(KITE, a) for a in range(6)], [0b11110, 0b11000, 0b11000, 0b10000, 0, 0])
        self.assertEqual(between(KITE, 0, 3), 0b1111)
        self.assertEqual(between(KITE, 1, 4), 0b11010)
        self.assertEqual(between(KITE, 0, 1), 0b11)

    def test_a_thing_between_itself_and_itself(self):
        for order in mixed_orders():
            for thing in range(len(order)):
                self.assertEqual(between(order, thing, thing), 2 ** thing)

    def test_none_between_where_the_first_is_not_at_or_beneath_the_second(self):
        self.assertEqual(between(KITE, 1, 2), 0)
        self.assertEqual(between(KITE, 3, 0), 0)
        self.assertEqual(between(KITE, 0, 5), 0)
        self.assertEqual(between(KITE, 5, 4), 0)

    def test_every_thing_of_orders_of_every_size(self):
        for order in mixed_orders():
            pairs = at_or_beneath(order)
            things = range(len(order))
            for b in things:
                self.assertEqual(beneath(order, b), mask_of(a for a in things if (a, b) in pairs and a != b))
                self.assertEqual(above(order, b), mask_of(c for c in things if (b, c) in pairs and c != b))

    def test_every_two_things_of_orders_of_every_size(self):
        for order in mixed_orders():
            pairs = at_or_beneath(order)
            things = range(len(order))
            for a in things:
                for b in things:
                    self.assertEqual(between(order, a, b),
                                     mask_of(c for c in things if (a, c) in pairs and (c, b) in pairs))

    def test_numbers_that_are_no_things(self):
        for order in ((), (1,), (1, 3), KITE, tuple(2 ** b for b in range(16))):
            for wrong in wrong_things(len(order)):
                if 0 <= wrong < len(order):
                    continue
                with self.subTest(order=order, wrong=wrong):
                    self.assertRaises(NoThing, beneath, order, wrong)
                    self.assertRaises(NoThing, above, order, wrong)
                    self.assertRaises(NoThing, between, order, wrong, wrong)
                    for right in range(len(order)):
                        self.assertRaises(NoThing, between, order, wrong, right)
                        self.assertRaises(NoThing, between, order, right, wrong)


class NextPairs(unittest.TestCase):
    def test_by_hand(self):
        self.assertEqual(next_pairs(KITE), [(0, 1), (0, 2), (1, 3), (2, 3), (3, 4)])
        self.assertEqual(next_pairs((0b111, 0b110, 0b100)), [(1, 0), (2, 1)])

    def test_none(self):
        self.assertEqual(next_pairs(()), [])
        self.assertEqual(next_pairs((1,)), [])
        self.assertEqual(next_pairs(tuple(2 ** b for b in range(16))), [])

    def test_orders_of_every_size(self):
        for order in mixed_orders():
            less = {(a, b) for a, b in at_or_beneath(order) if a != b}
            things = range(len(order))
            right = [(a, b) for a, b in less if not any((a, c) in less and (c, b) in less for c in things)]
            self.assertEqual(next_pairs(order), sorted(right))

    def test_an_order_is_made_of_its_next_pairs(self):
        for order in mixed_orders():
            self.assertEqual(made_order(len(order), next_pairs(order)), order)

    def test_kinds(self):
        pairs = next_pairs(KITE)
        self.assertIs(type(pairs), list)
        self.assertEqual({type(pair) for pair in pairs}, {tuple})

    def test_the_list_is_the_askers_own(self):
        told = next_pairs(KITE)
        before = list(told)
        told.append((4, 5))
        told[0] = (5, 0)
        self.assertEqual(next_pairs(KITE), before)
        empty = next_pairs(())
        empty.append((0, 1))
        self.assertEqual(next_pairs(()), [])


class LeastAndGreatest(unittest.TestCase):
    def test_by_hand(self):
        self.assertEqual(least_things(KITE), 0b100001)
        self.assertEqual(greatest_things(KITE), 0b110000)

    def test_no_things_one_thing_and_no_pairs(self):
        for many in range(17):
            order = tuple(2 ** b for b in range(many))
            self.assertEqual(least_things(order), 2 ** many - 1)
            self.assertEqual(greatest_things(order), 2 ** many - 1)

    def test_orders_of_every_size(self):
        for order in mixed_orders():
            less = {(a, b) for a, b in at_or_beneath(order) if a != b}
            things = range(len(order))
            self.assertEqual(least_things(order), mask_of(set(things) - {b for a, b in less}))
            self.assertEqual(greatest_things(order), mask_of(set(things) - {a for a, b in less}))


if __name__ == "__main__":
    unittest.main()
