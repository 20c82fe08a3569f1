import itertools
import random
import unittest

from sumsway.errors import NoRow
from sumsway.orders import is_order, kept_to, made_order, renumbered, upside_down
from tests.plain import at_or_beneath, mixed_orders, order_of

FAR = 10 ** 60
KITE = made_order(6, [(0, 1), (0, 2), (1, 3), (2, 3), (3, 4)])


class UpsideDown(unittest.TestCase):
    def test_by_hand(self):
        self.assertEqual(upside_down(()), ())
        self.assertEqual(upside_down((1,)), (1,))
        self.assertEqual(upside_down(KITE), (0b11111, 0b11010, 0b11100, 0b11000, 0b10000, 0b100000))

    def test_orders_of_every_size(self):
        for order in mixed_orders():
            turned = upside_down(order)
            self.assertEqual(turned, order_of(len(order), {(b, a) for a, b in at_or_beneath(order)}))
            self.assertEqual(upside_down(turned), order)
            self.assertIs(type(turned), tuple)


class KeptTo(unittest.TestCase):
    def test_by_hand(self):
        self.assertEqual(kept_to(KITE, 0b111001), (0b1, 0b11, 0b111, 0b1000))
        self.assertEqual(kept_to(KITE, 0b000110), (0b1, 0b10))
        self.assertEqual(kept_to(KITE, 0b100000), (1,))

    def test_the_empty_set_and_all_things(self):
        for order in mixed_orders():
            self.assertEqual(kept_to(order, 0), ())
            self.assertEqual(kept_to(order, 2 ** len(order) - 1), order)

    def check(self, order, mask):
        kept = [thing for thing in range(len(order)) if mask >> thing & 1]
        pairs = at_or_beneath(order)
        expected = {(i, k) for i, a in enumerate(kept) for k, b in enumerate(kept) if (a, b) in pairs}
        answer = kept_to(order, mask)
        self.assertEqual(answer, order_of(len(kept), expected))
        self.assertIs(type(answer), tuple)
        self.assertTrue(is_order(answer))

    def test_sets_of_orders_of_every_size(self):
        source = random.Random(14)
        for order in mixed_orders():
            masks = range(2 ** len(order))
            for mask in masks if len(order) < 4 else source.sample(masks, 10):
                self.check(order, mask)

    def test_all_sets_of_one_order(self):
        for mask in range(64):
            self.check(KITE, mask)


class Renumbered(unittest.TestCase):
    def test_by_hand(self):
        self.assertEqual(renumbered((), []), ())
        self.assertEqual(renumbered((1,), [0]), (1,))
        # Thing 0 becomes 2, 1 becomes 0, 2 becomes 1: the line 0, 1, 2 becomes 2, 0, 1.
        self.assertEqual(renumbered((0b001, 0b011, 0b111), [2, 0, 1]), (0b101, 0b111, 0b100))

    def check(self, order, row):
        pairs = {(row[a], row[b]) for a, b in at_or_beneath(order)}
        answer = renumbered(order, row)
        self.assertEqual(answer, order_of(len(order), pairs))
        self.assertIs(type(answer), tuple)

    def test_rows_of_orders_of_every_size(self):
        source = random.Random(15)
        for order in mixed_orders():
            self.check(order, list(range(len(order))))
            for turn in range(4):
                self.check(order, source.sample(range(len(order)), len(order)))

    def test_all_rows_of_one_order(self):
        for row in itertools.permutations(range(6)):
            self.check(KITE, list(row))

    def test_the_row_stays_as_it_was(self):
        row = [2, 0, 1]
        answer = renumbered((0b001, 0b011, 0b111), row)
        self.assertEqual(row, [2, 0, 1])
        row[0] = 1
        self.assertEqual(answer, (0b101, 0b111, 0b100))
        wrong = [2, 1, 1]
        self.assertRaises(NoRow, renumbered, (1, 2, 4), wrong)
        self.assertEqual(wrong, [2, 1, 1])

    def refuse(self, order, row):
        with self.subTest(order=order, row=row):
            self.assertRaises(NoRow, renumbered, order, row)

    def test_rows_too_short_and_too_long(self):
        for many in (0, 1, 2, 3, 16):
            order = tuple(2 ** b for b in range(many))
            self.refuse(order, list(range(many + 1)))
            self.refuse(order, list(range(many)) + [0])
            self.refuse(order, list(range(many)) * 2 + [0])
            if many > 0:
                self.refuse(order, list(range(many - 1)))
                self.refuse(order, [])

    def test_things_twice_and_numbers_that_are_no_things(self):
        for many in (1, 2, 3, 16):
            order = tuple(2 ** b for b in range(many))
            for place in range(many):
                for wrong in (-FAR, -many - 1, -many, -1, many, many + 1, FAR, (place + 1) % many):
                    row = list(range(many))
                    row[place] = wrong
                    if wrong != place:
                        self.refuse(order, row)

    def test_all_rows_of_three_small_numbers(self):
        line = (0b001, 0b011, 0b111)
        for row in itertools.product(range(-3, 5), repeat=3):
            if sorted(row) == [0, 1, 2]:
                self.check(line, list(row))
            else:
                self.refuse(line, list(row))


if __name__ == "__main__":
    unittest.main()
