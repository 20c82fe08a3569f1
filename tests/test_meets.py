import unittest

from sumsway.errors import NoJoin, NoMeet, NoThing, SumError
from sumsway.meets import join, join_bar, meet, meet_bar
from sumsway.orders import made_order
from tests.plain import at_or_beneath, meet_bar_in, meet_in, turned_pairs
from tests.shaped import FAR, LATTICES, ORDERS, line, loose

# 0 and 1 both beneath 2 and 3, 2 and 3 beneath 4, and 5 by itself.
KNOT = made_order(6, [(0, 2), (0, 3), (1, 2), (1, 3), (2, 4), (3, 4)])
# 0 beneath 1 and 2, both beneath 3.
DIAMOND = made_order(4, [(0, 1), (0, 2), (1, 3), (2, 3)])
FOUR = (meet, join, meet_bar, join_bar)


class ByHand(unittest.TestCase):
    def test_a_lattice(self):
        self.assertEqual([meet(DIAMOND, 1, b) for b in range(4)], [0, 1, 0, 1])
        self.assertEqual([join(DIAMOND, 1, b) for b in range(4)], [1, 1, 3, 3])
        for a in range(4):
            for b in range(4):
                self.assertIsNone(meet_bar(DIAMOND, a, b))
                self.assertIsNone(join_bar(DIAMOND, a, b))

    def test_two_highest_under_both(self):
        self.assertRaises(NoMeet, meet, KNOT, 2, 3)
        self.assertEqual(meet_bar(KNOT, 2, 3), (0, 1))
        self.assertEqual(join(KNOT, 2, 3), 4)
        self.assertIsNone(join_bar(KNOT, 2, 3))

    def test_two_lowest_over_both(self):
        self.assertRaises(NoJoin, join, KNOT, 0, 1)
        self.assertEqual(join_bar(KNOT, 0, 1), (2, 3))
        self.assertRaises(NoMeet, meet, KNOT, 0, 1)
        self.assertEqual(meet_bar(KNOT, 0, 1), ())

    def test_nothing_under_or_over_both(self):
        for a in range(5):
            self.assertEqual(meet_bar(KNOT, a, 5), ())
            self.assertEqual(join_bar(KNOT, 5, a), ())
            self.assertRaises(NoMeet, meet, KNOT, 5, a)
            self.assertRaises(NoJoin, join, KNOT, a, 5)

    def test_the_least_pair_of_many(self):
        # 1, 4, 5 and 7 beneath 0 and 2; 3 beneath 1 and 4, so that it bars nothing; 6 beneath all of these.
        pairs = [(x, y) for x in (1, 4, 5, 7) for y in (0, 2)] + [(3, 1), (3, 4), (6, 3), (6, 5), (6, 7)]
        order = made_order(8, pairs)
        self.assertEqual(meet_bar(order, 0, 2), (1, 4))
        self.assertEqual(meet_bar(order, 2, 0), (1, 4))
        self.assertEqual(meet(order, 1, 4), 3)
        self.assertEqual(meet(order, 4, 5), 6)
        self.assertEqual(join_bar(order, 7, 4), (0, 2))
        self.assertEqual(join_bar(order, 0, 2), ())

    def test_a_thing_and_itself(self):
        for order in ORDERS + LATTICES:
            for a in range(len(order)):
                self.assertEqual(meet(order, a, a), a)
                self.assertEqual(join(order, a, a), a)
                self.assertIsNone(meet_bar(order, a, a))
                self.assertIsNone(join_bar(order, a, a))


class GoneThrough(unittest.TestCase):
    def check(self, told, told_bar, refusal, order, pairs):
        many = len(order)
        for a in range(many):
            for b in range(many):
                expected = meet_in(many, pairs, a, b)
                bar = told_bar(order, a, b)
                self.assertEqual(bar, meet_bar_in(many, pairs, a, b), (order, a, b))
                if expected is None:
                    self.assertRaises(refusal, told, order, a, b)
                    self.assertIs(type(bar), tuple)
                    self.assertLessEqual({type(x) for x in bar}, {int})
                else:
                    answer = told(order, a, b)
                    self.assertEqual(answer, expected, (order, a, b))
                    self.assertIs(type(answer), int)
                    self.assertIsNone(bar)

    def test_meets_over_orders_of_every_size(self):
        for order in ORDERS + LATTICES:
            self.check(meet, meet_bar, NoMeet, order, at_or_beneath(order))

    def test_joins_over_orders_of_every_size(self):
        for order in ORDERS + LATTICES:
            self.check(join, join_bar, NoJoin, order, turned_pairs(at_or_beneath(order)))


class Refusals(unittest.TestCase):
    def test_no_things(self):
        for order in ORDERS[:40] + LATTICES[:40] + ORDERS[-12:]:
            many = len(order)
            for wrong in (-FAR, -many - 1, -many, -1, many, many + 1, FAR):
                if wrong in range(many):
                    continue
                for told in FOUR:
                    for thing in list(range(many)) + [wrong]:
                        self.assertRaises(NoThing, told, order, wrong, thing)
                        self.assertRaises(NoThing, told, order, thing, wrong)

    def test_a_thing_that_is_none_goes_ahead_of_no_meet_and_no_join(self):
        for a, b in ((0, 2), (2, 0), (-1, 1), (1, -1), (-2, -2), (2, 2)):
            for told in FOUR:
                self.assertRaises(NoThing, told, loose(2), a, b)
        self.assertRaises(NoMeet, meet, loose(2), 0, 1)
        self.assertRaises(NoJoin, join, loose(2), 0, 1)

    def test_classes(self):
        for refusal in (NoMeet, NoJoin, NoThing):
            self.assertEqual(refusal.__bases__, (SumError,))


class Asked(unittest.TestCase):
    def test_nothing_is_kept_from_one_question_to_the_next(self):
        for told in FOUR:
            first = told(DIAMOND, 1, 2)
            self.assertRaises(NoThing, told, KNOT, 6, 0)
            told(KNOT, 4, 4)
            self.assertEqual(told(DIAMOND, 1, 2), first)

    def test_somewhat_beyond_the_bounds(self):
        order = line(18)
        self.assertEqual(meet(order, 16, 17), 16)
        self.assertEqual(join(order, 16, 17), 17)
        self.assertIsNone(meet_bar(order, 16, 17))
        self.assertIsNone(join_bar(order, 17, 0))

    def test_arguments_by_their_names(self):
        self.assertEqual(meet(order=DIAMOND, a=1, b=3), 1)
        self.assertEqual(join(order=DIAMOND, a=1, b=3), 3)
        self.assertEqual(meet_bar(order=KNOT, a=2, b=3), (0, 1))
        self.assertEqual(join_bar(order=KNOT, a=0, b=1), (2, 3))


if __name__ == "__main__":
    unittest.main()
