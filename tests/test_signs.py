import random
import unittest

from sumsway.chains import chains_by_steps
from sumsway.errors import NoRow, SumError
from sumsway.orders import made_order, upside_down
from sumsway.signs import signs_table, sums_above, sums_beneath, turned_above, turned_beneath
from tests.plain import at_or_beneath, chains_from_to, product_over, signs_over, table_of, things_between, unit_over
from tests.shaped import FAR, ORDERS, row_by_chance, shaped_orders

# 0 beneath 1 and 2, both beneath 3, and 4 by itself.
DIAMOND = made_order(5, [(0, 1), (0, 2), (1, 3), (2, 3)])
# 2 beneath 0, and 0 beneath 1.
LINE = (0b101, 0b111, 0b100)
FOUR = (sums_beneath, sums_above, turned_beneath, turned_above)


class Signs(unittest.TestCase):
    def test_by_hand(self):
        self.assertEqual(signs_table(()), ())
        self.assertEqual(signs_table((1,)), ((1,),))
        self.assertEqual(signs_table(LINE), ((1, -1, 0), (0, 1, 0), (-1, 0, 1)))
        self.assertEqual(signs_table(DIAMOND), ((1, -1, -1, 1, 0), (0, 1, 0, -1, 0), (0, 0, 1, -1, 0),
                                                (0, 0, 0, 1, 0), (0, 0, 0, 0, 1)))

    def test_many_things_side_by_side_between_two(self):
        for many in range(15):
            order = made_order(many + 2, [(0, 1)] + [pair for k in range(many) for pair in ((0, k + 2), (k + 2, 1))])
            self.assertEqual(signs_table(order)[0][1], many - 1)

    def test_the_cube_of_sixteen_sets(self):
        sets = range(16)
        order = tuple(sum(2 ** one for one in sets if one & other == one) for other in sets)
        signs = {(a, b): (-1) ** bin(a ^ b).count("1") for a, b in at_or_beneath(order)}
        self.assertEqual(signs_table(order), table_of(16, signs))

    def test_lines_of_every_length(self):
        for many in range(17):
            order = tuple(2 ** (b + 1) - 1 for b in range(many))
            signs = {(a, b): (1, -1)[b - a] for a in range(many) for b in (a, a + 1)}
            self.assertEqual(signs_table(order), table_of(many, signs))

    def test_the_sums_of_signs_are_nought(self):
        for order in ORDERS:
            signs = signs_table(order)
            between = things_between(order)
            for a in range(len(order)):
                self.assertEqual(signs[a][a], 1)
                for b in range(len(order)):
                    if (a, b) not in between:
                        self.assertEqual(signs[a][b], 0)
                    elif a != b:
                        self.assertEqual(sum(signs[a][c] for c in between[a, b]), 0)
                        self.assertEqual(sum(signs[c][b] for c in between[a, b]), 0)

    def test_they_undo_the_ones(self):
        for order in ORDERS:
            signs = signs_table(order)
            ones = table_of(len(order), {pair: 1 for pair in at_or_beneath(order)})
            self.assertEqual(signs, signs_over(order))
            self.assertEqual(product_over(order, signs, ones), unit_over(order))
            self.assertEqual(product_over(order, ones, signs), unit_over(order))
            self.assertEqual(signs_table(upside_down(order)), tuple(zip(*signs)))

    def test_they_are_chains_of_even_less_chains_of_odd_steps(self):
        for order in ORDERS:
            signs = signs_table(order)
            for a in range(len(order)):
                for b in range(len(order)):
                    counts = chains_by_steps(order, a, b)
                    self.assertEqual(signs[a][b], sum(counts[0::2]) - sum(counts[1::2]))

    def test_they_are_told_by_all_chains_one_by_one(self):
        for order in shaped_orders()[:60]:
            signs = signs_table(order)
            for a in range(len(order)):
                for b in range(len(order)):
                    chains = chains_from_to(order, a, b)
                    self.assertEqual(signs[a][b], sum((-1) ** (len(chain) - 1) for chain in chains))

    def test_kinds(self):
        for order in ORDERS:
            signs = signs_table(order)
            self.assertIs(type(signs), tuple)
            for row in signs:
                self.assertIs(type(row), tuple)
                self.assertEqual({type(number) for number in row}, {int})


class Sums(unittest.TestCase):
    def test_by_hand(self):
        self.assertEqual(sums_beneath(DIAMOND, [1, 10, 100, 1000, 5]), [1, 11, 101, 1111, 5])
        self.assertEqual(sums_above(DIAMOND, [1, 10, 100, 1000, 5]), [1111, 1010, 1100, 1000, 5])
        self.assertEqual(turned_beneath(DIAMOND, [1, 11, 101, 1111, 5]), [1, 10, 100, 1000, 5])
        self.assertEqual(turned_above(DIAMOND, [1111, 1010, 1100, 1000, 5]), [1, 10, 100, 1000, 5])
        self.assertEqual(turned_beneath(DIAMOND, [0, 0, 0, 7, 0]), [0, 0, 0, 7, 0])
        self.assertEqual(turned_beneath(DIAMOND, [7, 0, 0, 0, 0]), [7, -7, -7, 7, 0])
        self.assertEqual(turned_above(DIAMOND, [0, 0, 0, 7, 0]), [7, -7, -7, 7, 0])
        self.assertEqual(sums_beneath(LINE, [FAR, -FAR, FAR]), [2 * FAR, FAR, FAR])

    def test_no_things_and_one(self):
        for told in FOUR:
            self.assertEqual(told((), []), [])
            self.assertEqual(told((1,), [-7]), [-7])

    def test_sums_over_orders_of_every_size(self):
        source = random.Random(31)
        for order in ORDERS:
            pairs = at_or_beneath(order)
            things = range(len(order))
            row = row_by_chance(source, order)
            self.assertEqual(sums_beneath(order, row), [sum(row[a] for a in things if (a, b) in pairs) for b in things])
            self.assertEqual(sums_above(order, row), [sum(row[c] for c in things if (b, c) in pairs) for b in things])

    def test_turned_by_signs_over_orders_of_every_size(self):
        source = random.Random(32)
        for order in ORDERS:
            pairs = at_or_beneath(order)
            signs = signs_over(order)
            things = range(len(order))
            sums = row_by_chance(source, order)
            self.assertEqual(turned_beneath(order, sums),
                             [sum(signs[a][b] * sums[a] for a in things if (a, b) in pairs) for b in things])
            self.assertEqual(turned_above(order, sums),
                             [sum(signs[b][c] * sums[c] for c in things if (b, c) in pairs) for b in things])

    def test_whatever_row_is_turned_back_and_summed_again(self):
        source = random.Random(33)
        for order in ORDERS:
            for row in (row_by_chance(source, order), [0] * len(order), [FAR] * len(order), [-FAR] * len(order)):
                self.assertEqual(sums_beneath(order, turned_beneath(order, row)), row)
                self.assertEqual(turned_beneath(order, sums_beneath(order, row)), row)
                self.assertEqual(sums_above(order, turned_above(order, row)), row)
                self.assertEqual(turned_above(order, sums_above(order, row)), row)

    def test_rows_too_short_and_too_long(self):
        for order in ORDERS:
            many = len(order)
            for wrong in {many - 1, many + 1, 2 * many + 2, 0, 1, 16, 17} - {many, -1}:
                for told in FOUR:
                    with self.assertRaises(NoRow, msg=(told, order, wrong)):
                        told(order, [0] * wrong)
        self.assertTrue(issubclass(NoRow, SumError))

    def test_kinds(self):
        source = random.Random(34)
        for order in ORDERS:
            for told in FOUR:
                answer = told(order, row_by_chance(source, order))
                self.assertIs(type(answer), list)
                self.assertLessEqual({type(number) for number in answer}, {int})

    def test_what_is_handed_in_stays_and_is_not_kept(self):
        for told in FOUR:
            row = [1, 10, 100, 1000, 5]
            answer = told(DIAMOND, row)
            before = list(answer)
            self.assertEqual(row, [1, 10, 100, 1000, 5])
            row[0] = 77
            row.append(3)
            self.assertEqual(answer, before)
            self.assertRaises(NoRow, told, DIAMOND, row)
            self.assertEqual(row, [77, 10, 100, 1000, 5, 3])
            self.assertEqual(told(DIAMOND, [1, 10, 100, 1000, 5]), before)

    def test_no_two_answers_share_a_list(self):
        for told in FOUR:
            # Nothing is beneath another: the sums are the row itself, but not the same list.
            for order, row in (((1, 2, 4), [4, 5, 6]), (DIAMOND, [1, 2, 3, 4, 5]), ((), [])):
                one, other = told(order, row), told(order, row)
                self.assertEqual(one, other)
                self.assertIsNot(one, other)
                self.assertIsNot(one, row)
                before = list(other)
                one.append(9)
                self.assertEqual(other, before)
                self.assertEqual(told(order, row), before)

    def test_somewhat_beyond_the_bounds(self):
        order = tuple(2 ** (b + 1) - 1 for b in range(18))
        row = [10 ** 70] * 18
        self.assertEqual(sums_beneath(order, row), [10 ** 70 * (b + 1) for b in range(18)])
        self.assertEqual(turned_above(order, sums_above(order, row)), row)

    def test_arguments_by_their_names(self):
        self.assertEqual(signs_table(order=LINE), signs_table(LINE))
        self.assertEqual(sums_beneath(order=LINE, row=[1, 2, 3]), [4, 6, 3])
        self.assertEqual(sums_above(order=LINE, row=[1, 2, 3]), [3, 2, 6])
        self.assertEqual(turned_beneath(order=LINE, sums=[4, 6, 3]), [1, 2, 3])
        self.assertEqual(turned_above(order=LINE, sums=[3, 2, 6]), [1, 2, 3])


if __name__ == "__main__":
    unittest.main()
