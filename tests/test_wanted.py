"""Promise 12."""

import unittest

from calling import FAR, TOP, ask, bid, last, seen_after, slices, unbid, wanted

BOOK = (slices(3, 5), bid(1, 9, 5, 4), bid(2, 6, 5), bid(3, 7))


class Wanted(unittest.TestCase):
    def test_offers_of_others_that_are_greater(self):
        # The others of bidder 1 have 7, 6, 5 and the house's 5, 5, 5.
        found = [last(*BOOK, wanted(1, p)) for p in (8, 7, 6, 5, 4, 3)]
        self.assertEqual(found, [[0], [0], [1], [2], [6], [6]])

    def test_its_own_are_not_counted(self):
        self.assertEqual([last(*BOOK, wanted(2, p)) for p in (8, 5, 4, 3)], [[1], [2], [6], [7]])
        self.assertEqual([last(*BOOK, wanted(3, p)) for p in (8, 5, 4, 3)], [[1], [2], [7], [8]])

    def test_the_houses_are_counted(self):
        found = ask(slices(3, 5), bid(1, 9), wanted(1, 4), wanted(1, 5), wanted(1, 6))[2:]
        self.assertEqual(found, [[3], [0], [0]])

    def test_those_met_and_those_left(self):
        before = (slices(1, 5), bid(1, 9), bid(2, 8), bid(3, 7), bid(4))
        self.assertEqual(ask(*before, wanted(1, 6), wanted(2, 6), wanted(4, 6), wanted(4, 0))[5:], [[2], [2], [3], [4]])

    def test_below_0(self):
        before = (slices(2, -5), bid(1, -1), bid(8, -4, -6))
        self.assertEqual([last(*before, wanted(1, p)) for p in (-4, -5, -6, -7)], [[0], [1], [3], [4]])

    def test_the_utmost_prices(self):
        calls = [bid(who, *[TOP] * 60) for who in range(1, 9)]
        for who in (1, 8):
            self.assertEqual(last(slices(60, -TOP), *calls, wanted(who, -FAR)), [480])
            self.assertEqual(last(slices(60, -TOP), *calls, wanted(who, -TOP)), [420])
            self.assertEqual(last(slices(60, -TOP), *calls, wanted(who, TOP - 1)), [420])
            self.assertEqual(last(slices(60, -TOP), *calls, wanted(who, TOP)), [0])
            self.assertEqual(last(slices(60, -TOP), *calls, wanted(who, FAR)), [0])
        self.assertEqual(ask(slices(1, 0), bid(1, 3), wanted(1, -FAR), wanted(1, FAR))[2:], [[1], [0]])

    def test_refuses_who_has_no_bid(self):
        for who in (0, 4, 8, 9, -1, FAR, -FAR):
            for p in (5, FAR, -FAR):
                self.assertEqual(last(*BOOK, wanted(who, p)), [-2], who)
        self.assertEqual(last(slices(1, 0), wanted(1, 0)), [-2])
        self.assertEqual(last(*BOOK, unbid(1), wanted(1, 5)), [-2])
        self.assertEqual(last(*BOOK, slices(3, 5), wanted(1, 5)), [-2])

    def test_looking_changes_nothing(self):
        looked = (wanted(1, 5), wanted(3, -FAR), wanted(4, 5), wanted(0, 5), wanted(9, 5))
        self.assertEqual(seen_after(*BOOK, *looked), seen_after(*BOOK))


if __name__ == "__main__":
    unittest.main()
