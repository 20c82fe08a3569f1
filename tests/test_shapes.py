import itertools
import random
import unittest

from sumsway.joining import heaped, product, side_by_side, with_bottom, with_top
from sumsway.orders import made_order, upside_down
from sumsway.shapes import same_shape, shape_row
from tests.plain import all_orders, at_or_beneath, least_row, least_row_of_all, led_to, order_of, renumbers
from tests.plain import ringless_pairs
from tests.shaped import LATTICES, ORDERS, line, loose

MIXED = ORDERS + LATTICES


def crown(many):
    """So many things, each beneath all but one of so many others."""
    return made_order(2 * many, [(a, many + b) for a in range(many) for b in range(many) if a != b])


def fence(many):
    """A fence that leads round: so many things, each beneath two of so many others."""
    return made_order(2 * many, [(a, many + b % many) for a in range(many) for b in (a, a + 1)])


def copies(many, order):
    whole = ()
    for turn in range(many):
        whole = side_by_side(whole, order)
    return whole


def two_layers(source, lower, upper, each):
    """So many lower things beneath `each` of the upper ones, all of which have as many lower things."""
    while True:
        ends = [b for b in range(upper) for turn in range(lower * each // upper)]
        source.shuffle(ends)
        pairs = [(k // each, lower + b) for k, b in enumerate(ends)]
        if len(set(pairs)) == len(pairs):
            return made_order(lower + upper, pairs)


def turned_about(source, order):
    """The order with its things numbered in any way."""
    row = source.sample(range(len(order)), len(order))
    return order_of(len(order), {(row[a], row[b]) for a, b in at_or_beneath(order)})


# Of many things alike: whatever tells things apart by what is around them tells little here.
ALIKE = (loose(16), line(16), copies(8, line(2)), copies(4, line(4)), copies(5, line(3)), copies(4, fence(2)),
         copies(2, fence(4)), fence(8), fence(7), crown(8), crown(7), copies(2, crown(4)), heaped(loose(8), loose(8)),
         heaped(copies(4, line(2)), loose(8)), product(loose(4), with_top(loose(3))),
         product(product(line(2), line(2)), product(line(2), line(2))), with_top(with_bottom(loose(14))),
         side_by_side(loose(8), fence(4)), side_by_side(crown(4), fence(4)), side_by_side(copies(4, line(2)), fence(4)))

# Two orders each of another shape, though each thing of the one has as many things around it, and those
# again as many, and so on, as some thing of the other.
UNLIKE = ((fence(4), copies(2, fence(2))), (fence(8), copies(2, fence(4))), (fence(8), copies(4, fence(2))),
          (copies(2, fence(4)), side_by_side(fence(4), copies(2, fence(2)))),
          (fence(6), copies(2, fence(3))), (fence(7), side_by_side(fence(3), fence(4))),
          (with_top(fence(6)), with_top(copies(3, fence(2)))),
          (heaped(fence(4), fence(4)), heaped(fence(4), copies(2, fence(2)))),
          (side_by_side(loose(8), fence(4)), side_by_side(loose(8), copies(2, fence(2)))),
          (side_by_side(copies(4, line(2)), fence(4)), side_by_side(copies(4, line(2)), copies(2, fence(2)))),
          (side_by_side(crown(4), fence(4)), side_by_side(crown(4), copies(2, fence(2)))))


class ByHand(unittest.TestCase):
    def test_no_things_and_one(self):
        self.assertEqual(shape_row((), ()), [])
        self.assertEqual(shape_row((1,), (1,)), [0])
        self.assertIs(same_shape((), ()), True)
        self.assertIs(same_shape((1,), (1,)), True)

    def test_the_row_has_the_new_number_of_each_thing(self):
        # The line 0, 1, 2 becomes the line 2, 0, 1.
        self.assertEqual(shape_row((0b001, 0b011, 0b111), (0b101, 0b111, 0b100)), [2, 0, 1])
        self.assertEqual(shape_row((0b101, 0b111, 0b100), (0b001, 0b011, 0b111)), [1, 2, 0])

    def test_the_least_row_of_several(self):
        self.assertEqual(shape_row(loose(16), loose(16)), list(range(16)))
        # 3 beneath 0, 1 and 2, and 1 beneath 0, 2 and 3.
        self.assertEqual(shape_row((0b1001, 0b1010, 0b1100, 0b1000), (0b0011, 0b0010, 0b0110, 0b1010)), [0, 2, 3, 1])
        self.assertEqual(shape_row(crown(8), crown(8)), list(range(16)))
        # Pairs 0 beneath 1, 2 beneath 3; and 3 beneath 0, 2 beneath 1.
        self.assertEqual(shape_row((0b0001, 0b0011, 0b0100, 0b1100), (0b1001, 0b0110, 0b0100, 0b1000)), [2, 1, 3, 0])

    def test_the_same_put_together_in_two_ways(self):
        self.assertEqual(shape_row(product(loose(4), loose(4)), loose(16)), list(range(16)))
        self.assertEqual(shape_row(copies(4, line(4)), product(loose(4), line(4))), list(range(16)))
        self.assertEqual(shape_row(product(line(2), line(3)), product(line(3), line(2))), [0, 2, 4, 1, 3, 5])
        self.assertEqual(shape_row(side_by_side(line(3), (1,)), side_by_side((1,), line(3))), [1, 2, 3, 0])
        self.assertIs(same_shape(heaped(loose(2), loose(3)), heaped(loose(3), loose(2))), False)

    def test_other_shapes(self):
        self.assertIsNone(shape_row((1, 2), (1, 3)))
        self.assertIs(same_shape((1, 2), (1, 3)), False)
        self.assertIsNone(shape_row(with_top(loose(2)), with_bottom(loose(2))))

    def test_unlike_counts(self):
        for many in range(18):
            for more in range(18):
                if many != more:
                    for one, other in ((line(many), line(more)), (loose(many), loose(more)), (line(many), loose(more))):
                        self.assertIsNone(shape_row(one, other))
                        self.assertIs(same_shape(one, other), False)


class GoneThrough(unittest.TestCase):
    def check(self, one, other, expected):
        row = shape_row(one, other)
        self.assertEqual(row, expected, (one, other))
        self.assertIs(same_shape(one, other), expected is not None)
        self.assertIs(same_shape(other, one), expected is not None)
        if row is not None:
            self.assertIs(type(row), list)
            self.assertLessEqual({type(thing) for thing in row}, {int})
            self.assertTrue(renumbers(one, other, row))

    def test_each_two_orders_of_up_to_three_things(self):
        orders = [order for many in range(4) for order in all_orders(many)]
        for one, other in itertools.product(orders, repeat=2):
            self.check(one, other, least_row_of_all(one, other))

    def test_all_rows_of_orders_of_up_to_six_things(self):
        source = random.Random(42)
        small = [order for order in MIXED if len(order) <= 6]
        for one in small:
            other = turned_about(source, one)
            self.check(one, other, least_row_of_all(one, other))
        for turn in range(150):
            one, other = source.choice(small), source.choice(small)
            self.check(one, other, least_row_of_all(one, other))

    def test_all_rows_of_orders_of_five_things_that_differ_little(self):
        source = random.Random(43)
        for turn in range(200):
            pairs = ringless_pairs(source, 5)
            orders = []
            for kept in (pairs, [pair for pair in pairs if pair != pairs[0]]):
                orders.append(order_of(5, led_to(5, kept) | {(a, a) for a in range(5)}))
            self.check(orders[0], orders[1], least_row_of_all(*orders))
            self.check(orders[0], upside_down(orders[0]), least_row_of_all(orders[0], upside_down(orders[0])))

    def test_orders_of_every_size_numbered_in_another_way(self):
        source = random.Random(44)
        for one in MIXED:
            other = turned_about(source, one)
            self.check(one, other, least_row(one, other))
            self.check(one, upside_down(other), least_row(one, upside_down(other)))

    def test_orders_of_every_size_two_by_two(self):
        source = random.Random(45)
        by_size = {many: [order for order in MIXED if len(order) == many] for many in range(17)}
        for many, orders in by_size.items():
            for turn in range(20):
                one, other = source.choice(orders), source.choice(orders)
                self.check(one, other, least_row(one, other))

    def test_orders_of_many_things_alike(self):
        source = random.Random(46)
        for order in ALIKE:
            for turn in range(3):
                one, other = turned_about(source, order), turned_about(source, order)
                self.check(one, other, least_row(one, other))
            self.check(order, order, least_row(order, order))

    def test_two_layers(self):
        source = random.Random(47)
        for lower, upper, each in ((8, 8, 2), (8, 8, 3), (8, 8, 4), (9, 6, 2), (10, 6, 3), (12, 4, 2), (6, 9, 3)):
            for turn in range(6):
                order = two_layers(source, lower, upper, each)
                one, other = turned_about(source, order), turned_about(source, order)
                self.check(one, other, least_row(one, other))
                # Here nothing tells the lower things apart until the upper ones come, which are numbered last.
                self.assertTrue(renumbers(order, other, shape_row(order, other)))

    def test_two_layers_of_other_shapes(self):
        source = random.Random(51)
        for turn in range(40):
            one, other = two_layers(source, 6, 6, 2), two_layers(source, 6, 6, 2)
            self.check(one, other, least_row(one, other))
            one, other = two_layers(source, 6, 6, 3), turned_about(source, two_layers(source, 6, 6, 3))
            self.check(one, other, least_row(one, other))


class NoRowAtAll(unittest.TestCase):
    def check(self, one, other):
        self.assertEqual(len(one), len(other))
        self.assertIsNone(shape_row(one, other))
        self.assertIsNone(shape_row(other, one))
        self.assertIs(same_shape(one, other), False)

    def test_orders_of_many_things_alike(self):
        source = random.Random(48)
        for one, other in UNLIKE:
            # As they stand, things that may be told in many ways come ahead of those that tell the two apart.
            self.check(one, other)
            for turn in range(3):
                self.check(turned_about(source, one), turned_about(source, other))

    def test_each_two_of_unlike_shape(self):
        for one, other in itertools.combinations(ALIKE, 2):
            self.assertIs(same_shape(one, other), False)

    def test_one_pair_fewer(self):
        source = random.Random(49)
        for order in ALIKE:
            pairs = sorted(at_or_beneath(order))
            right = [(a, b) for a, b in pairs if a != b and not any(
                (a, c) in pairs and (c, b) in pairs for c in range(len(order)) if c not in (a, b))]
            if right:
                fewer = order_of(len(order), set(pairs) - {source.choice(right)})
                self.assertIsNone(shape_row(order, turned_about(source, fewer)))
                self.assertIsNone(shape_row(turned_about(source, fewer), order))


class Asked(unittest.TestCase):
    def test_no_two_answers_share_a_list(self):
        one, other = (0b001, 0b011, 0b111), (0b101, 0b111, 0b100)
        first, second = shape_row(one, other), shape_row(one, other)
        self.assertIsNot(first, second)
        first.append(9)
        first[0] = 8
        self.assertEqual(second, [2, 0, 1])
        self.assertEqual(shape_row(one, other), [2, 0, 1])
        self.assertEqual((one, other), ((0b001, 0b011, 0b111), (0b101, 0b111, 0b100)))
        shape_row((), ()).append(7)
        self.assertEqual(shape_row((), ()), [])

    def test_somewhat_beyond_the_bounds(self):
        source = random.Random(50)
        for order in (line(18), loose(18)):
            other = turned_about(source, order)
            self.assertEqual(shape_row(order, other), least_row(order, other))

    def test_arguments_by_their_names(self):
        one, other = (0b001, 0b011, 0b111), (0b101, 0b111, 0b100)
        self.assertEqual(shape_row(other=other, one=one), [2, 0, 1])
        self.assertIs(same_shape(other=other, one=one), True)


if __name__ == "__main__":
    unittest.main()
