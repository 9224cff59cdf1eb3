"""Promise 10."""

import unittest

from calling import TOP, ask, between, bid, one, seen_after, slices, unbid

BOOK = (slices(4, 5), bid(1, 20, 10, 6), bid(2, 15, 7), bid(3, 8))


def both(*calls):
    return ask(*calls, one(), between())[-2:]


class OneAndBetween(unittest.TestCase):
    def test_the_greatest_left_and_the_least_met(self):
        self.assertEqual(both(*BOOK), [[1, 7], [1, 7, 8]])

    def test_the_houses_among_those_left(self):
        self.assertEqual(both(slices(2, 5), bid(1, 8, 7)), [[1, 5], [1, 5, 7]])
        self.assertEqual(both(slices(2, 5), bid(1, 8, 7), bid(2, 4)), [[1, 5], [1, 5, 7]])
        self.assertEqual(both(slices(2, 5), bid(1, 8, 7), bid(2, 6)), [[1, 6], [1, 6, 7]])

    def test_the_houses_among_those_met(self):
        self.assertEqual(both(slices(2, 5), bid(1, 4)), [[1, 4], [1, 4, 5]])
        self.assertEqual(both(slices(2, 5), bid(8, 4, 3), bid(2, 4)), [[1, 4], [1, 4, 5]])

    def test_the_houses_among_both(self):
        self.assertEqual(both(slices(5, 9), bid(2, 20, 10, 6), bid(7, 15, 7)), [[1, 9], [1, 9, 9]])
        self.assertEqual(both(slices(2, -3), bid(2, 20)), [[1, -3], [1, -3, -3]])

    def test_none_left(self):
        self.assertEqual(both(slices(3, 2)), [[0], [0, 2]])
        self.assertEqual(both(slices(3, 0)), [[0], [0, 0]])
        self.assertEqual(both(slices(3, -2)), [[0], [0, -2]])
        self.assertEqual(both(slices(3, 2), bid(1), bid(8)), [[0], [0, 2]])
        self.assertEqual(both(slices(3, 2), bid(1, 9), bid(2), unbid(1)), [[0], [0, 2]])
        self.assertEqual(both(*BOOK, slices(3, 7)), [[0], [0, 7]])

    def test_one_left_alone(self):
        self.assertEqual(both(slices(1, 3), bid(8, 4)), [[1, 3], [1, 3, 4]])
        self.assertEqual(both(slices(1, 3), bid(8, 2)), [[1, 2], [1, 2, 3]])

    def test_0_is_an_offer_as_others(self):
        self.assertEqual(both(slices(1, 0), bid(1, 3)), [[1, 0], [1, 0, 3]])
        self.assertEqual(both(slices(1, 0), bid(1, -3)), [[1, -3], [1, -3, 0]])
        self.assertEqual(both(slices(1, 0), bid(1, 0)), [[1, 0], [1, 0, 0]])

    def test_ties(self):
        self.assertEqual(both(slices(2, 0), bid(1, 5, 5), bid(2, 5)), [[1, 5], [1, 5, 5]])
        self.assertEqual(both(slices(2, 5), bid(1, 6, 5)), [[1, 5], [1, 5, 5]])

    def test_below_0(self):
        self.assertEqual(both(slices(1, -5), bid(1, -3), bid(2, -4)), [[1, -4], [1, -4, -3]])

    def test_the_utmost(self):
        for n in (1, 60):
            self.assertEqual(both(slices(n, TOP)), [[0], [0, TOP]])
            self.assertEqual(both(slices(n, -TOP)), [[0], [0, -TOP]])
            self.assertEqual(both(slices(n, -TOP), bid(8, *[TOP] * n)), [[1, -TOP], [1, -TOP, TOP]])
            self.assertEqual(both(slices(n, TOP), bid(1, *[-TOP] * n)), [[1, -TOP], [1, -TOP, TOP]])

    def test_looking_changes_nothing(self):
        self.assertEqual(seen_after(*BOOK, one(), between(), one()), seen_after(*BOOK))


if __name__ == "__main__":
    unittest.main()
