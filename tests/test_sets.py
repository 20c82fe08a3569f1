import itertools
import random
import unittest

from sumsway.sets import many_in, set_of, subsets, things_in
from tests.plain import mask_of


def sets_of_numbers():
    """Lists of numbers from 0 to 199, in any order, some with numbers told twice."""
    source = random.Random(200)
    lists = [[], [0], [199], [0, 199], [199, 0], [63, 64, 65], [5, 5], [7, 3, 7, 3, 7], list(range(200))]
    for many in (1, 2, 3, 8, 20, 60, 150, 300):
        lists += [[source.randrange(200) for place in range(many)] for turn in range(10)]
    return lists


class Sets(unittest.TestCase):
    def test_by_hand(self):
        self.assertEqual(things_in(0b101001), [0, 3, 5])
        self.assertEqual(set_of([5, 0, 3, 5]), 0b101001)
        self.assertEqual(many_in(0b101001), 3)
        self.assertEqual(set_of([199]), 2 ** 199)
        self.assertEqual(things_in(2 ** 199 + 1), [0, 199])

    def test_the_empty_set(self):
        self.assertEqual(things_in(0), [])
        self.assertEqual(set_of([]), 0)
        self.assertEqual(many_in(0), 0)

    def test_all_small_masks(self):
        for mask in range(1024):
            things = [k for k in range(10) if mask // 2 ** k % 2 == 1]
            self.assertEqual(things_in(mask), things)
            self.assertEqual(many_in(mask), len(things))
            self.assertEqual(set_of(things), mask)

    def test_numbers_up_to_199_told_twice_and_out_of_order(self):
        for things in sets_of_numbers():
            mask = set_of(things)
            self.assertEqual(mask, mask_of(things))
            self.assertEqual(things_in(mask), sorted(set(things)))
            self.assertEqual(many_in(mask), len(set(things)))

    def test_kinds(self):
        self.assertIs(type(things_in(6)), list)
        self.assertIs(type(set_of([1, 2])), int)
        self.assertIs(type(many_in(6)), int)
        self.assertIs(type(subsets(6)), list)

    def test_nothing_handed_in_is_changed(self):
        for things in sets_of_numbers():
            before = list(things)
            set_of(things)
            self.assertEqual(things, before)

    def test_a_list_that_was_told_is_the_askers_own(self):
        told = things_in(0b1011)
        told.append(9)
        told[0] = 4
        self.assertEqual(things_in(0b1011), [0, 1, 3])
        empty = things_in(0)
        empty.append(1)
        self.assertEqual(things_in(0), [])


class Subsets(unittest.TestCase):
    def check(self, things):
        picks = [pick for many in range(len(things) + 1) for pick in itertools.combinations(things, many)]
        self.assertEqual(subsets(mask_of(things)), sorted(mask_of(pick) for pick in picks))

    def test_by_hand(self):
        self.assertEqual(subsets(0b1011), [0, 1, 2, 3, 8, 9, 10, 11])

    def test_of_the_empty_set_there_is_one(self):
        self.assertEqual(subsets(0), [0])

    def test_of_one_thing(self):
        for thing in (0, 1, 64, 199):
            self.assertEqual(subsets(2 ** thing), [0, 2 ** thing])

    def test_up_to_ten_things(self):
        source = random.Random(10)
        for many in range(11):
            self.check(list(range(many)))
            self.check(sorted(source.sample(range(16), many)))
            self.check(sorted(source.sample(range(200), many)))

    def test_a_list_that_was_told_is_the_askers_own(self):
        told = subsets(5)
        told.append(77)
        told[0] = 3
        self.assertEqual(subsets(5), [0, 1, 4, 5])
        empty = subsets(0)
        empty.append(1)
        self.assertEqual(subsets(0), [0])
        self.assertEqual(subsets(5), [0, 1, 4, 5])


if __name__ == "__main__":
    unittest.main()
