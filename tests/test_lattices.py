import unittest

from sumsway.errors import NoLattice, NoThing, SumError
from sumsway.joining import heaped, product, with_bottom, with_top
from sumsway.lattices import across, is_lattice, is_spread, join_rows, lattice_bar, meet_rows, spread_bar
from sumsway.orders import kept_to, made_order, renumbered
from sumsway.signs import signs_table
from tests.plain import (all_orders, at_or_beneath, lattice_bar_over, mask_of, meet_in, rows_in, spread_bar_over,
                         turned_pairs)
from tests.shaped import FAR, LATTICES, ORDERS, line

DIAMOND = made_order(4, [(0, 1), (0, 2), (1, 3), (2, 3)])
# Three things between the least and the greatest one.
THREE_BETWEEN = made_order(5, [(0, 1), (0, 2), (0, 3), (1, 4), (2, 4), (3, 4)])
# 1 beneath 2, and 3 beside both, between the least and the greatest one.
FIVE_ROUND = made_order(5, [(0, 1), (1, 2), (2, 4), (0, 3), (3, 4)])
CUBE = product(DIAMOND, DIAMOND)
NEAR = tuple(kept_to(order, 2 ** len(order) - 1 - 2 ** thing) for order in LATTICES[::8] for thing in range(len(order)))
MIXED = ORDERS + LATTICES + NEAR
ALL_LATTICES = tuple(order for order in MIXED if lattice_bar_over(order) is None)
OTHERS = tuple(order for order in MIXED if lattice_bar_over(order) is not None)
REFUSING = (meet_rows, join_rows, spread_bar, is_spread, lambda order: across(order, 0))


class Lattice(unittest.TestCase):
    def test_by_hand(self):
        self.assertEqual(lattice_bar(()), ())
        self.assertIsNone(lattice_bar((1,)))
        self.assertIsNone(lattice_bar((1, 3)))
        self.assertEqual(lattice_bar((1, 2)), (0, 1, "join"))
        for order in (DIAMOND, THREE_BETWEEN, FIVE_ROUND, CUBE):
            self.assertIsNone(lattice_bar(order))

    def test_a_join_or_a_meet_alone_is_missing(self):
        self.assertEqual(lattice_bar(with_bottom((1, 2))), (1, 2, "join"))
        self.assertEqual(lattice_bar(with_top((1, 2))), (0, 1, "meet"))

    def test_the_pair_counts_ahead_of_the_word(self):
        # 0 and 3 have no meet, and 1 and 2 have no join.
        order = made_order(6, [(1, 0), (1, 3), (2, 0), (2, 3), (4, 1), (4, 2), (0, 5), (3, 5)])
        self.assertEqual(lattice_bar(order), (0, 3, "meet"))

    def test_join_goes_ahead_of_meet(self):
        self.assertEqual(lattice_bar((1, 2, 4)), (0, 1, "join"))
        # Nothing is under both 0 and 1, and two things are right above both.
        self.assertEqual(lattice_bar(heaped((1, 2), (1, 2))), (0, 1, "join"))

    def test_gone_through(self):
        for order in MIXED + tuple(all_orders(3)):
            bar = lattice_bar(order)
            self.assertEqual(bar, lattice_bar_over(order), order)
            self.assertIs(is_lattice(order), bar is None)
            if bar is not None:
                self.assertIs(type(bar), tuple)
                self.assertLessEqual({type(x) for x in bar}, {int, str})

    def test_both_kinds_of_bar_and_none_are_met(self):
        words = [bar[2:] for bar in map(lattice_bar, OTHERS)]
        for word in ((), ("join",), ("meet",)):
            self.assertGreater(words.count(word), 0)
        self.assertEqual({len(order) for order in ALL_LATTICES}, set(range(1, 17)))
        self.assertEqual({len(order) for order in OTHERS}, set(range(17)) - {1})

    def test_is_lattice_by_hand(self):
        self.assertIs(is_lattice(()), False)
        self.assertIs(is_lattice((1,)), True)
        self.assertIs(is_lattice((1, 2)), False)
        self.assertIs(is_lattice(CUBE), True)


class Rows(unittest.TestCase):
    def test_by_hand(self):
        self.assertEqual(meet_rows((1,)), ((0,),))
        self.assertEqual(join_rows((1,)), ((0,),))
        self.assertEqual(meet_rows(DIAMOND), ((0, 0, 0, 0), (0, 1, 0, 1), (0, 0, 2, 2), (0, 1, 2, 3)))
        self.assertEqual(join_rows(DIAMOND), ((0, 1, 2, 3), (1, 1, 3, 3), (2, 3, 2, 3), (3, 3, 3, 3)))

    def test_gone_through(self):
        for order in ALL_LATTICES:
            many, pairs = len(order), at_or_beneath(order)
            for told, way in ((meet_rows, pairs), (join_rows, turned_pairs(pairs))):
                rows = told(order)
                self.assertEqual(rows, tuple(map(tuple, rows_in(many, way))))
                self.assertEqual({type(part) for part in (rows,) + rows}, {tuple})
                self.assertEqual({type(thing) for row in rows for thing in row}, {int})


class Spread(unittest.TestCase):
    def test_by_hand(self):
        for order in ((1,), (1, 3), DIAMOND, CUBE):
            self.assertIsNone(spread_bar(order))
            self.assertIs(is_spread(order), True)
        # 1 with (2 or 3) is 1, but 1 with 2 and 1 with 3 are both 0.
        self.assertEqual(spread_bar(THREE_BETWEEN), (1, 2, 3))
        # 2 with (1 or 3) is 2, but 2 with 1 is 1 and 2 with 3 is 0.
        self.assertEqual(spread_bar(FIVE_ROUND), (2, 1, 3))
        self.assertIs(is_spread(THREE_BETWEEN), False)
        self.assertIs(is_spread(FIVE_ROUND), False)

    def test_numbered_in_another_way(self):
        self.assertEqual(spread_bar(renumbered(FIVE_ROUND, [4, 2, 0, 1, 3])), (0, 1, 2))
        self.assertEqual(spread_bar(renumbered(FIVE_ROUND, [0, 4, 3, 1, 2])), (3, 1, 4))
        self.assertEqual(spread_bar(renumbered(THREE_BETWEEN, [1, 0, 3, 4, 2])), (0, 3, 4))

    def test_gone_through(self):
        bars = []
        for order in ALL_LATTICES:
            bar = spread_bar(order)
            self.assertEqual(bar, spread_bar_over(order), order)
            self.assertIs(is_spread(order), bar is None)
            if bar is not None:
                self.assertIs(type(bar), tuple)
                self.assertEqual({type(x) for x in bar}, {int})
            bars.append(bar)
        self.assertGreater(bars.count(None), 50)
        self.assertGreater(len(bars) - bars.count(None), 30)


class Across(unittest.TestCase):
    def test_by_hand(self):
        self.assertEqual(across((1,), 0), 0b1)
        self.assertEqual([across((1, 3), a) for a in range(2)], [0b10, 0b11])
        self.assertEqual([across(DIAMOND, a) for a in range(4)], [0b1000, 0b1100, 0b1010, 0b1111])
        self.assertEqual([across(THREE_BETWEEN, a) for a in range(5)], [0b10000, 0b11100, 0b11010, 0b10110, 0b11111])

    def test_gone_through(self):
        for order in ALL_LATTICES:
            many, turned = len(order), turned_pairs(at_or_beneath(order))
            greatest = [i for i in range(many) if all((i, x) in turned for x in range(many))][0]
            for a in range(many):
                expected = [x for x in range(many) if meet_in(many, turned, a, x) == greatest]
                answer = across(order, a)
                self.assertEqual(answer, mask_of(expected))
                self.assertIs(type(answer), int)

    def test_the_signs_across_a_thing_sum_to_nought(self):
        for order in ALL_LATTICES:
            many, pairs = len(order), at_or_beneath(order)
            least = [o for o in range(many) if all((o, x) in pairs for x in range(many))][0]
            signs = signs_table(order)
            for a in range(many):
                told = across(order, a)
                total = sum(signs[least][x] for x in range(many) if told // 2 ** x % 2 == 1)
                if a != least:
                    self.assertEqual(total, 0)
                else:
                    self.assertEqual(told, mask_of(x for x in range(many) if order[x] == 2 ** many - 1))


class Refusals(unittest.TestCase):
    def test_what_is_no_lattice(self):
        for order in OTHERS:
            for told in REFUSING:
                self.assertRaises(NoLattice, told, order)
        for refusal in (NoLattice, NoThing):
            self.assertEqual(refusal.__bases__, (SumError,))

    def test_no_lattice_goes_ahead_of_no_thing(self):
        for order in OTHERS:
            for thing in (-FAR, -1, 0, len(order), FAR):
                self.assertRaises(NoLattice, across, order, thing)

    def test_no_things(self):
        for order in ALL_LATTICES[::3]:
            many = len(order)
            for wrong in (-FAR, -many - 1, -many, -1, many, many + 1, FAR):
                self.assertRaises(NoThing, across, order, wrong)


class Asked(unittest.TestCase):
    def test_nothing_is_kept_from_one_question_to_the_next(self):
        for told in (lattice_bar, is_lattice) + REFUSING:
            first = told(DIAMOND)
            told(THREE_BETWEEN)
            lattice_bar((1, 2))
            self.assertEqual(told(DIAMOND), first)

    def test_somewhat_beyond_the_bounds(self):
        order = line(18)
        self.assertIsNone(lattice_bar(order))
        self.assertIs(is_spread(order), True)
        self.assertEqual(meet_rows(order)[16][17], 16)
        self.assertEqual(join_rows(order)[16][17], 17)
        self.assertEqual(across(order, 16), 2 ** 17)

    def test_arguments_by_their_names(self):
        for told in (lattice_bar, is_lattice, meet_rows, join_rows, spread_bar, is_spread):
            self.assertEqual(told(order=DIAMOND), told(DIAMOND))
        self.assertEqual(across(order=DIAMOND, a=1), 0b1100)


if __name__ == "__main__":
    unittest.main()
