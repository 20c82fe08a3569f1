import random
import unittest

from sumsway.errors import NotUndone, SumError
from sumsway.tables import made_table, ones_table, steps_table, unit_table
from sumsway.undoing import table_power, undone
from tests.plain import product_over, unit_over
from tests.shaped import FAR, ORDERS, shaped_orders, table_by_chance

EITHER = (1, -1)
# Own numbers that bar undoing.
BARRING = (0, 2, -2, 3, FAR, -FAR)
SHAPED = shaped_orders()


def with_own(table, thing, number):
    row = table[thing][:thing] + (number,) + table[thing][thing + 1:]
    return table[:thing] + (row,) + table[thing + 1:]


class Undone(unittest.TestCase):
    def test_by_hand(self):
        # 2 beneath 0, and 0 beneath 1.
        table = ((1, 7, 0), (0, -1, 0), (5, 0, 1))
        self.assertEqual(undone(table), ((1, 7, 0), (0, -1, 0), (-5, -35, 1)))
        self.assertEqual(undone(((1, 1), (0, 1))), ((1, -1), (0, 1)))
        self.assertEqual(undone(((1, FAR), (0, 1))), ((1, -FAR), (0, 1)))
        self.assertEqual(undone(((-1, FAR), (0, 1))), ((-1, FAR), (0, 1)))

    def test_no_things_and_one(self):
        self.assertEqual(undone(()), ())
        self.assertEqual(undone(((1,),)), ((1,),))
        self.assertEqual(undone(((-1,),)), ((-1,),))

    def check(self, order, table):
        other = undone(table)
        self.assertIs(type(other), tuple)
        self.assertEqual({type(row) for row in other}, {tuple} if order else set())
        self.assertEqual(made_table(order, other), other)
        self.assertEqual(product_over(order, table, other), unit_over(order))
        self.assertEqual(product_over(order, other, table), unit_over(order))
        self.assertEqual(undone(other), table)

    def test_from_both_sides_over_orders_of_every_size(self):
        source = random.Random(220)
        for order in ORDERS:
            self.check(order, table_by_chance(source, order, EITHER))
            self.check(order, table_by_chance(source, order, (1,)))
            self.check(order, table_by_chance(source, order, (-1,)))

    def test_tables_with_nothing_for_some_pairs_between(self):
        # 0 leads to 3 by 1 and 2 alone, so the things must not be walked by how many lead to each.
        table = ((1, 5, 0, 0), (0, 1, 6, 0), (0, 0, 1, 7), (0, 0, 0, 1))
        self.check((1, 3, 7, 15), table)
        self.check((0b1111, 0b1110, 0b1100, 0b1000), tuple(zip(*table)))
        for order in ORDERS:
            self.check(order, ones_table(order))
            self.check(order, unit_table(order))

    def test_somewhat_beyond_the_bounds(self):
        order = tuple(2 ** (b + 1) - 1 for b in range(18))
        self.check(order, tuple(tuple(1 if a == b else 10 ** 70 * (a < b) for b in range(18)) for a in range(18)))

    def test_arguments_by_their_names(self):
        table = ((1, 4), (0, 1))
        self.assertEqual(undone(table=table), undone(table))
        self.assertEqual(table_power(table=table, many=3), table_power(table, 3))


class Refused(unittest.TestCase):
    def thing_told(self, call, *handed):
        with self.assertRaises(NotUndone) as caught:
            call(*handed)
        self.assertIsInstance(caught.exception, SumError)
        return caught.exception.thing

    def test_one_thing_with_another_own_number(self):
        source = random.Random(221)
        for order in SHAPED:
            table = table_by_chance(source, order, EITHER)
            for thing in range(len(order)):
                wrong = with_own(table, thing, BARRING[thing % len(BARRING)])
                self.assertEqual(self.thing_told(undone, wrong), thing)
                self.assertEqual(self.thing_told(table_power, wrong, -1), thing)

    def test_each_number_that_bars(self):
        for number in BARRING + (FAR - 1, 1 - FAR):
            self.assertEqual(self.thing_told(undone, ((number,),)), 0)
            self.assertEqual(self.thing_told(undone, ((1, 1), (0, number))), 1)

    def test_the_least_of_several_whatever_is_beneath_what(self):
        source = random.Random(222)
        for order in SHAPED:
            for turn in range(2):
                table = table_by_chance(source, order, EITHER + BARRING)
                barred = [thing for thing in range(len(order)) if table[thing][thing] not in EITHER]
                if barred:
                    self.assertEqual(self.thing_told(undone, table), min(barred))
                    self.assertEqual(self.thing_told(table_power, table, source.randint(-40, -1)), min(barred))
        # Thing 2 is beneath 0, and 0 beneath 1.
        self.assertEqual(self.thing_told(undone, ((1, 7, 0), (0, 0, 0), (5, 0, 2))), 1)

    def test_tables_of_steps_have_none(self):
        for order in SHAPED:
            if order:
                self.assertEqual(self.thing_told(undone, steps_table(order)), 0)

    def test_powers_from_nought_on_never_refuse(self):
        for many in (0, 1, 2, 40):
            self.assertEqual(table_power(((2,),), many), ((2 ** many,),))
            self.assertEqual(table_power(((0, 1), (0, 0)), many)[0][1], 1 if many == 1 else 0)


class Powers(unittest.TestCase):
    def test_by_hand(self):
        ones = ((1, 1, 1), (0, 1, 1), (0, 0, 1))
        self.assertEqual(table_power(ones, 0), ((1, 0, 0), (0, 1, 0), (0, 0, 1)))
        self.assertEqual(table_power(ones, 1), ones)
        self.assertEqual(table_power(ones, 2), ((1, 2, 3), (0, 1, 2), (0, 0, 1)))
        self.assertEqual(table_power(ones, 3), ((1, 3, 6), (0, 1, 3), (0, 0, 1)))
        self.assertEqual(table_power(ones, -1), ((1, -1, 0), (0, 1, -1), (0, 0, 1)))
        self.assertEqual(table_power(ones, -2), ((1, -2, 1), (0, 1, -2), (0, 0, 1)))
        self.assertEqual(table_power(((1, 1), (0, 1)), 40), ((1, 40), (0, 1)))
        self.assertEqual(table_power(((1, 1), (0, 1)), -40), ((1, -40), (0, 1)))

    def test_no_things_and_one(self):
        for many in range(-40, 41):
            self.assertEqual(table_power((), many), ())
            self.assertEqual(table_power(((1,),), many), ((1,),))
            self.assertEqual(table_power(((-1,),), many), (((-1) ** (many % 2),),))
        for many in range(41):
            self.assertEqual(table_power(((-FAR,),), many), (((-FAR) ** many,),))

    def check_upward(self, order, table):
        power = unit_over(order)
        for many in range(41):
            self.assertEqual(table_power(table, many), power, many)
            power = product_over(order, power, table)

    def test_from_nought_to_forty(self):
        source = random.Random(230)
        for order in SHAPED[::7]:
            self.check_upward(order, table_by_chance(source, order))

    def test_from_forty_below_to_forty_above(self):
        source = random.Random(231)
        for order in SHAPED[::7]:
            table = table_by_chance(source, order, EITHER)
            other = undone(table)
            below = unit_over(order)
            for many in range(41):
                self.assertEqual(table_power(table, -many), below, many)
                self.assertEqual(product_over(order, table_power(table, many), below), unit_over(order))
                below = product_over(order, below, other)

    def test_kinds_over_orders_of_every_size(self):
        source = random.Random(232)
        for order in ORDERS:
            table = table_by_chance(source, order, EITHER)
            for many in (-3, -1, 0, 1, 2):
                power = table_power(table, many)
                self.assertIs(type(power), tuple)
                self.assertEqual(made_table(order, power), power)

    def test_somewhat_beyond_the_bounds(self):
        self.assertEqual(table_power(((1, 1), (0, 1)), 45), ((1, 45), (0, 1)))
        self.assertEqual(table_power(((1, 1), (0, 1)), -45), ((1, -45), (0, 1)))


if __name__ == "__main__":
    unittest.main()
