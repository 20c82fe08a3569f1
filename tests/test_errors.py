import unittest

from sumsway import errors

PLAIN = ("NoOrder", "NoThing", "NoTable", "NoRow", "TooMany", "NoMeet", "NoJoin", "NoLattice", "NoWay",
         "NoSuch", "NoText", "NoName", "Unlike")
KEEPING = {"Ring": [2, 0, 1], "NotUndone": 5}
ALL = PLAIN + tuple(KEEPING)


def made(name):
    kind = getattr(errors, name)
    if name in KEEPING:
        return kind("some words", KEEPING[name])
    return kind("some words")


class ErrorClasses(unittest.TestCase):
    def test_there_are_fifteen(self):
        self.assertEqual(len(set(ALL)), 15)
        there = [value for value in vars(errors).values() if isinstance(value, type)]
        self.assertEqual({kind.__name__ for kind in there}, set(ALL) | {"SumError"})

    def test_sum_error_is_straight_under_value_error(self):
        self.assertEqual(errors.SumError.__bases__, (ValueError,))
        self.assertEqual(str(errors.SumError("some words")), "some words")

    def test_each_is_straight_under_sum_error(self):
        for name in ALL:
            with self.subTest(name):
                self.assertEqual(getattr(errors, name).__bases__, (errors.SumError,))

    def test_each_is_caught_as_itself_as_sum_error_and_as_value_error(self):
        for name in ALL:
            for kind in (getattr(errors, name), errors.SumError, ValueError):
                with self.subTest(name=name, kind=kind), self.assertRaises(kind):
                    raise made(name)

    def test_none_is_one_of_the_others(self):
        for name in ALL:
            for other in ALL:
                with self.subTest(name=name, other=other):
                    self.assertEqual(isinstance(made(name), getattr(errors, other)), name == other)

    def test_each_tells_its_words(self):
        for name in ALL:
            with self.subTest(name):
                self.assertEqual(str(made(name)), "some words")
                self.assertEqual(made(name).args, ("some words",))


class WhatIsKept(unittest.TestCase):
    def test_ring_keeps_its_ring(self):
        error = errors.Ring("some words", [2, 0, 1])
        self.assertEqual(error.ring, [2, 0, 1])
        self.assertIs(type(error.ring), list)

    def test_ring_has_a_list_of_its_own(self):
        ring = [2, 0, 1]
        error = errors.Ring("some words", ring)
        ring.append(7)
        self.assertEqual(error.ring, [2, 0, 1])
        error.ring.append(8)
        self.assertEqual(ring, [2, 0, 1, 7])

    def test_not_undone_keeps_its_thing(self):
        for thing in (0, 5, 15):
            self.assertEqual(errors.NotUndone("some words", thing).thing, thing)


if __name__ == "__main__":
    unittest.main()
