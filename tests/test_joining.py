import random
import unittest

from sumsway.errors import SumError, TooMany
from sumsway.joining import heaped, product, side_by_side, with_bottom, with_top
from sumsway.orders import is_order, made_order
from sumsway.signs import signs_table
from tests.plain import all_orders, at_or_beneath, laid_together, order_of, put_together, signs_over
from tests.shaped import ORDERS, line, loose

LINE = (0b01, 0b11)
LOOSE = (0b01, 0b10)
SMALL = tuple(order for many in range(4) for order in all_orders(many))
THREE = (product, side_by_side, heaped)


def two_by_two(source, fits):
    """Each two small orders, and orders of every size with another one, where the sizes fit."""
    found = [(one, other) for one in SMALL for other in SMALL]
    for one in ORDERS:
        others = [other for other in ORDERS if fits(len(one), len(other))]
        for other in source.sample(others, min(3, len(others))):
            found += [(one, other), (other, one)]
    return found


TIMES = two_by_two(random.Random(40), lambda many, more: many * more <= 16)
PLUS = two_by_two(random.Random(41), lambda many, more: many + more <= 16)


class Product(unittest.TestCase):
    def test_by_hand(self):
        self.assertEqual(product(LINE, LINE), (0b0001, 0b0011, 0b0101, 0b1111))
        self.assertEqual(product(LINE, LOOSE), (0b0001, 0b0010, 0b0101, 0b1010))
        self.assertEqual(product(LOOSE, LINE), (0b0001, 0b0011, 0b0100, 0b1100))
        self.assertEqual(product(line(2), line(3)), (0b1, 0b11, 0b111, 0b001001, 0b011011, 0b111111))
        self.assertEqual(product(line(3), line(2)), (0b1, 0b11, 0b101, 0b1111, 0b010101, 0b111111))

    def test_with_no_things_and_with_one(self):
        for order in ORDERS:
            self.assertEqual(product(order, ()), ())
            self.assertEqual(product((), order), ())
            self.assertEqual(product(order, (1,)), order)
            self.assertEqual(product((1,), order), order)

    def test_pair_by_pair(self):
        for one, other in TIMES:
            pairs, other_pairs = at_or_beneath(one), at_or_beneath(other)
            whole = put_together(one, other, lambda low, high: (low[0], high[0]) in pairs
                                 and (low[1], high[1]) in other_pairs)
            self.assertEqual(product(one, other), whole)

    def test_signs_are_products_of_signs(self):
        for one, other in TIMES:
            many = len(other)
            signs, other_signs = signs_over(one), signs_over(other)
            whole = signs_table(product(one, other))
            self.assertEqual(len(whole), len(one) * many)
            for i, row in enumerate(whole):
                for k, sign in enumerate(row):
                    self.assertEqual(sign, signs[i // many][k // many] * other_signs[i % many][k % many])

    def test_just_what_is_too_many_is_refused(self):
        for many in range(19):
            for more in range(19):
                if many * more <= 16:
                    self.assertEqual(len(product(line(many), loose(more))), many * more)
                else:
                    self.assertRaises(TooMany, product, line(many), loose(more))
                    self.assertRaises(TooMany, product, loose(many), line(more))


class SideBySide(unittest.TestCase):
    def test_by_hand(self):
        self.assertEqual(side_by_side(LINE, LOOSE), (0b01, 0b11, 0b0100, 0b1000))
        self.assertEqual(side_by_side(LOOSE, LINE), (0b01, 0b10, 0b0100, 0b1100))
        self.assertEqual(side_by_side((1,), LINE), (0b1, 0b010, 0b110))

    def test_with_no_things(self):
        for order in ORDERS:
            self.assertEqual(side_by_side(order, ()), order)
            self.assertEqual(side_by_side((), order), order)

    def test_pair_by_pair(self):
        for one, other in PLUS:
            self.assertEqual(side_by_side(one, other), laid_together(one, other, False))

    def test_signs_are_those_of_the_parts(self):
        for one, other in PLUS:
            ahead, behind = (0,) * len(one), (0,) * len(other)
            rows = [row + behind for row in signs_over(one)] + [ahead + row for row in signs_over(other)]
            self.assertEqual(signs_table(side_by_side(one, other)), tuple(rows))


class Heaped(unittest.TestCase):
    def test_by_hand(self):
        self.assertEqual(heaped(LINE, LOOSE), (0b01, 0b11, 0b0111, 0b1011))
        self.assertEqual(heaped(LOOSE, LINE), (0b01, 0b10, 0b0111, 0b1111))
        self.assertEqual(heaped((1,), LINE), line(3))

    def test_with_no_things(self):
        for order in ORDERS:
            self.assertEqual(heaped(order, ()), order)
            self.assertEqual(heaped((), order), order)

    def test_pair_by_pair(self):
        for one, other in PLUS:
            whole = heaped(one, other)
            self.assertEqual(whole, laid_together(one, other, True))
            self.assertEqual(signs_table(whole), signs_over(whole))


class BottomAndTop(unittest.TestCase):
    def test_by_hand(self):
        self.assertEqual(with_bottom(()), (1,))
        self.assertEqual(with_top(()), (1,))
        self.assertEqual(with_bottom((1,)), (0b01, 0b11))
        self.assertEqual(with_top((1,)), (0b01, 0b11))
        self.assertEqual(with_bottom(LOOSE), (0b001, 0b011, 0b101))
        self.assertEqual(with_top(LOOSE), (0b001, 0b010, 0b111))
        self.assertEqual(with_bottom((0b11, 0b10)), (0b001, 0b111, 0b101))
        self.assertEqual(with_top((0b11, 0b10)), (0b011, 0b010, 0b111))

    def test_pair_by_pair(self):
        for order in ORDERS:
            many, pairs = len(order), at_or_beneath(order)
            if many == 16:
                continue
            bottom = {(0, b) for b in range(many + 1)} | {(a + 1, b + 1) for a, b in pairs}
            top = pairs | {(a, many) for a in range(many + 1)}
            self.assertEqual(with_bottom(order), order_of(many + 1, bottom))
            self.assertEqual(with_top(order), order_of(many + 1, top))
            for whole in (with_bottom(order), with_top(order)):
                self.assertEqual(signs_table(whole), signs_over(whole))

    def test_just_what_is_too_many_is_refused(self):
        for told in (with_bottom, with_top):
            for order in ORDERS:
                if len(order) == 16:
                    self.assertRaises(TooMany, told, order)
                else:
                    self.assertEqual(len(told(order)), len(order) + 1)
            self.assertRaises(TooMany, told, line(17))


class All(unittest.TestCase):
    def test_just_what_is_too_many_is_refused(self):
        for told in (side_by_side, heaped):
            for many in range(19):
                for more in range(19):
                    if many + more <= 16:
                        self.assertEqual(len(told(line(many), loose(more))), many + more)
                    else:
                        self.assertRaises(TooMany, told, line(many), loose(more))
                        self.assertRaises(TooMany, told, loose(many), line(more))
        self.assertEqual(TooMany.__bases__, (SumError,))

    def test_kinds(self):
        for told, both in ((product, TIMES), (side_by_side, PLUS), (heaped, PLUS)):
            for one, other in both:
                whole = told(one, other)
                self.assertIs(type(whole), tuple)
                self.assertLessEqual({type(mask) for mask in whole}, {int})
                self.assertTrue(is_order(whole))

    def test_nothing_is_kept_from_one_question_to_the_next(self):
        for told in THREE:
            first = told(LINE, LOOSE)
            told(LOOSE, line(5))
            self.assertRaises(TooMany, told, line(9), line(9))
            self.assertEqual(told(LINE, LOOSE), first)
        self.assertEqual(with_bottom(with_top(with_bottom(()))), line(3))
        self.assertEqual(with_bottom(()), (1,))

    def test_arguments_by_their_names(self):
        order = made_order(3, [(2, 0)])
        for told in THREE:
            self.assertEqual(told(other=order, one=LINE), told(LINE, order))
            self.assertNotEqual(told(LINE, order), told(order, LINE))
        self.assertEqual(with_bottom(order=order), (0b0001, 0b1011, 0b0101, 0b1001))
        self.assertEqual(with_top(order=order), (0b0101, 0b0010, 0b0100, 0b1111))


if __name__ == "__main__":
    unittest.main()
