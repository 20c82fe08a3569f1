import itertools
import random
import unittest

from sumsway.errors import NoTable, SumError
from sumsway.orders import made_order, upside_down
from sumsway.tables import (made_table, next_table, ones_table, steps_table, table_product, table_sum, table_times,
                            turned_table, unit_table)
from tests.plain import at_or_beneath, product_over, table_of, unit_over
from tests.shaped import FAR, ORDERS, table_by_chance

# 0 beneath 1 and 2, both beneath 3, and 4 by itself.
DIAMOND = made_order(5, [(0, 1), (0, 2), (1, 3), (2, 3)])
# 2 beneath 0, and 0 beneath 1.
LINE = (0b101, 0b111, 0b100)
KINDS = (list, tuple)


def rows_as(outer, inner, table):
    return outer(inner(row) for row in table)


class Kinds(unittest.TestCase):
    def check_table(self, table, many):
        self.assertIs(type(table), tuple)
        self.assertEqual(len(table), many)
        for row in table:
            self.assertIs(type(row), tuple)
            self.assertEqual(len(row), many)
            self.assertLessEqual({type(number) for number in row}, {int})


class MadeTables(Kinds):
    def test_by_hand(self):
        rows = [[3, 7, 0], [0, -2, 0], [5, 0, 1]]
        self.assertEqual(made_table(LINE, rows), ((3, 7, 0), (0, -2, 0), (5, 0, 1)))
        self.assertEqual(made_table((), []), ())
        self.assertEqual(made_table((), ()), ())
        self.assertEqual(made_table((1,), [[-4]]), ((-4,),))
        self.assertEqual(made_table((1,), [[0]]), ((0,),))

    def test_lists_and_tuples_over_orders_of_every_size(self):
        source = random.Random(20)
        for order in ORDERS:
            table = table_by_chance(source, order)
            for outer, inner in itertools.product(KINDS, KINDS):
                answer = made_table(order, rows_as(outer, inner, table))
                self.assertEqual(answer, table)
                self.check_table(answer, len(order))

    def test_rows_of_both_kinds_in_one_table(self):
        self.assertEqual(made_table(LINE, [[1, 2, 0], (0, 3, 0), [4, 5, 6]]), ((1, 2, 0), (0, 3, 0), (4, 5, 6)))
        self.assertEqual(made_table(LINE, ((1, 2, 0), [0, 3, 0], (4, 5, 6))), ((1, 2, 0), (0, 3, 0), (4, 5, 6)))

    def test_numbers_either_way_up_to_the_bound(self):
        for number in (FAR, -FAR, FAR - 1, 1 - FAR):
            for a, b in at_or_beneath(DIAMOND):
                table = table_of(5, {(a, b): number})
                self.assertEqual(made_table(DIAMOND, table), table)

    def test_what_is_handed_in_stays_and_is_not_kept(self):
        rows = [[3, 7, 0], [0, -2, 0], [5, 0, 1]]
        table = made_table(LINE, rows)
        self.assertEqual(rows, [[3, 7, 0], [0, -2, 0], [5, 0, 1]])
        rows[0][0] = 99
        rows.append([1])
        self.assertEqual(table, ((3, 7, 0), (0, -2, 0), (5, 0, 1)))
        self.assertEqual(made_table(LINE, [[3, 7, 0], [0, -2, 0], [5, 0, 1]]), table)
        for wrong in ([[1, 1, 1], [0, 1, 0], [1, 1, 1]], [[1, 0], [0, 1]], [[1, 1, 0], [0, 1, 0], [1, 1]]):
            before = [list(row) for row in wrong]
            self.assertRaises(NoTable, made_table, LINE, wrong)
            self.assertEqual(wrong, before)


class RefusedTables(unittest.TestCase):
    def refuse(self, order, rows):
        with self.subTest(order=order, rows=rows):
            self.assertRaises(NoTable, made_table, order, rows)

    def refuse_as_all_kinds(self, order, rows):
        for outer, inner in itertools.product(KINDS, KINDS):
            self.refuse(order, rows_as(outer, inner, rows))

    def test_a_row_less_or_more(self):
        for many in (0, 1, 2, 5, 16):
            order = tuple(2 ** b for b in range(many))
            unit = unit_over(order)
            self.refuse_as_all_kinds(order, unit + ((0,) * many,))
            self.refuse_as_all_kinds(order, unit + ((),))
            if many > 0:
                self.refuse_as_all_kinds(order, unit[1:])
                self.refuse_as_all_kinds(order, unit[:-1])
                self.refuse_as_all_kinds(order, ())

    def test_a_number_less_or_more_in_one_row(self):
        for many in (1, 2, 5, 16):
            for order in (tuple(2 ** b for b in range(many)), tuple(2 ** (b + 1) - 1 for b in range(many))):
                unit = unit_over(order)
                for a in range(many):
                    for row in (unit[a][1:], unit[a][:-1], unit[a] + (0,), (0,) + unit[a], unit[a] + (1,), ()):
                        self.refuse_as_all_kinds(order, unit[:a] + (row,) + unit[a + 1:])

    def test_every_row_too_long_or_too_short(self):
        self.refuse_as_all_kinds(LINE, ((1, 0), (0, 1), (0, 0)))
        self.refuse_as_all_kinds(LINE, ((1, 0, 0, 0), (0, 1, 0, 0), (0, 0, 1, 0)))
        self.refuse_as_all_kinds(LINE, ((), (), ()))

    def test_a_number_other_than_nought_off_the_pairs(self):
        for order in ORDERS:
            pairs = at_or_beneath(order)
            ways = itertools.product(range(len(order)), repeat=2)
            for k, (a, b) in enumerate(sorted(set(ways) - pairs)):
                number = (1, -1, 2, FAR, -FAR)[k % 5]
                numbers = {(c, d): 1 for c, d in pairs}
                numbers[a, b] = number
                rows = table_of(len(order), numbers)
                self.assertRaises(NoTable, made_table, order, rows)
                self.assertRaises(NoTable, made_table, order, rows_as(list, list, rows))

    def test_the_pairs_the_wrong_way_round(self):
        for order in ORDERS:
            ones = table_of(len(order), {pair: 1 for pair in at_or_beneath(order)})
            turned = tuple(zip(*ones))
            if turned != ones:
                self.refuse(order, turned)

    def test_it_is_a_sum_error(self):
        self.assertRaises(SumError, made_table, (1,), [])
        self.assertRaises(SumError, made_table, (1, 2), [[1, 1], [0, 1]])


class FourTables(Kinds):
    def test_by_hand(self):
        self.assertEqual(unit_table(LINE), ((1, 0, 0), (0, 1, 0), (0, 0, 1)))
        self.assertEqual(ones_table(LINE), ((1, 1, 0), (0, 1, 0), (1, 1, 1)))
        self.assertEqual(steps_table(LINE), ((0, 1, 0), (0, 0, 0), (1, 1, 0)))
        self.assertEqual(next_table(LINE), ((0, 1, 0), (0, 0, 0), (1, 0, 0)))

    def test_no_things_and_one(self):
        for told in (unit_table, ones_table, steps_table, next_table):
            self.assertEqual(told(()), ())
        self.assertEqual((unit_table((1,)), ones_table((1,))), (((1,),), ((1,),)))
        self.assertEqual((steps_table((1,)), next_table((1,))), (((0,),), ((0,),)))

    def test_orders_of_every_size(self):
        for order in ORDERS:
            many = len(order)
            pairs = at_or_beneath(order)
            less = {(a, b) for a, b in pairs if a != b}
            right = {(a, b) for a, b in less if not any((a, c) in less and (c, b) in less for c in range(many))}
            self.assertEqual(unit_table(order), unit_over(order))
            self.assertEqual(ones_table(order), table_of(many, {pair: 1 for pair in pairs}))
            self.assertEqual(steps_table(order), table_of(many, {pair: 1 for pair in less}))
            self.assertEqual(next_table(order), table_of(many, {pair: 1 for pair in right}))

    def test_kinds(self):
        for order in ORDERS:
            for told in (unit_table, ones_table, steps_table, next_table):
                self.check_table(told(order), len(order))
                self.assertEqual(made_table(order, told(order)), told(order))


class Reckoning(Kinds):
    def test_by_hand(self):
        one = ((3, 7, 0), (0, -2, 0), (5, 0, 1))
        other = ((1, 1, 0), (0, 4, 0), (-1, 6, 2))
        self.assertEqual(table_sum(one, other), ((4, 8, 0), (0, 2, 0), (4, 6, 3)))
        self.assertEqual(table_times(-3, one), ((-9, -21, 0), (0, 6, 0), (-15, 0, -3)))
        # For (2, 1): 5 * 1 from thing 0, 0 * 4 from thing 1, 1 * 6 from thing 2.
        self.assertEqual(table_product(one, other), ((3, 31, 0), (0, -8, 0), (4, 11, 2)))
        self.assertEqual(table_product(other, one), ((3, 5, 0), (0, -8, 0), (7, -19, 2)))
        self.assertEqual(turned_table(one), ((3, 0, 5), (7, -2, 0), (0, 0, 1)))

    def test_no_things(self):
        self.assertEqual(table_sum((), ()), ())
        self.assertEqual(table_times(5, ()), ())
        self.assertEqual(table_product((), ()), ())
        self.assertEqual(turned_table(()), ())

    def test_sums_and_times_over_orders_of_every_size(self):
        source = random.Random(21)
        for order in ORDERS:
            ways = list(itertools.product(range(len(order)), repeat=2))
            one, other = table_by_chance(source, order), table_by_chance(source, order)
            added = {(a, b): one[a][b] + other[a][b] for a, b in ways}
            self.assertEqual(table_sum(one, other), table_of(len(order), added))
            for number in (0, 1, -1, source.randint(-FAR, FAR), FAR, -FAR):
                taken = {(a, b): number * one[a][b] for a, b in ways}
                self.assertEqual(table_times(number, one), table_of(len(order), taken))
            self.check_table(table_sum(one, other), len(order))
            self.check_table(table_times(0, one), len(order))

    def test_products_over_orders_of_every_size(self):
        source = random.Random(22)
        for order in ORDERS:
            one, other = table_by_chance(source, order), table_by_chance(source, order)
            product = table_product(one, other)
            self.assertEqual(product, product_over(order, one, other))
            self.check_table(product, len(order))
            self.assertEqual(made_table(order, product), product)
            self.assertEqual(table_product(unit_table(order), one), one)
            self.assertEqual(table_product(one, unit_table(order)), one)

    def test_the_product_of_ones_and_ones_counts_what_is_between(self):
        for order in ORDERS:
            pairs = at_or_beneath(order)
            counts = {(a, b): sum((a, c) in pairs and (c, b) in pairs for c in range(len(order)))
                      for a in range(len(order)) for b in range(len(order))}
            self.assertEqual(table_product(ones_table(order), ones_table(order)), table_of(len(order), counts))

    def test_turned_tables_over_orders_of_every_size(self):
        source = random.Random(23)
        for order in ORDERS:
            one, other = table_by_chance(source, order), table_by_chance(source, order)
            turned = turned_table(one)
            self.assertEqual(turned, tuple(zip(*one)))
            self.check_table(turned, len(order))
            self.assertEqual(made_table(upside_down(order), turned), turned)
            self.assertEqual(turned_table(turned), one)
            self.assertEqual(turned_table(ones_table(order)), ones_table(upside_down(order)))
            self.assertEqual(turned_table(table_product(one, other)),
                             product_over(upside_down(order), turned_table(other), turned))

    def test_somewhat_beyond_the_bounds(self):
        order = tuple(2 ** (b + 1) - 1 for b in range(18))
        rows = table_of(18, {pair: 10 ** 70 for pair in at_or_beneath(order)})
        self.assertEqual(made_table(order, rows), rows)
        self.assertEqual(table_product(rows, unit_table(order)), rows)
        self.assertEqual(table_product(rows, rows)[0][17], 18 * 10 ** 140)
        self.assertEqual(table_times(10 ** 70, ones_table(order)), rows)

    def test_arguments_by_their_names(self):
        rows = [[3, 7, 0], [0, -2, 0], [5, 0, 1]]
        table = made_table(order=LINE, rows=rows)
        for told in (unit_table, ones_table, steps_table, next_table):
            self.assertEqual(told(order=LINE), told(LINE))
        self.assertEqual(table_sum(one=table, other=table), table_times(number=2, table=table))
        self.assertEqual(table_product(one=table, other=table), table_product(table, table))
        self.assertEqual(turned_table(table=table), turned_table(table))


if __name__ == "__main__":
    unittest.main()
