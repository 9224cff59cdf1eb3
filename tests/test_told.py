"""Promise 9."""

import unittest

from calling import FAR, TOP, ask, bid, last, seen_after, slices, sum_of, told, unbid

BOOK = (slices(4, 5), bid(1, 20, 10, 6), bid(2, 15, 7), bid(3, 8))


class Told(unittest.TestCase):
    def test_the_sum_of_its_offers_that_are_met(self):
        self.assertEqual(ask(*BOOK, told(1), told(2), told(3))[4:], [[0, 30], [0, 15], [0, 8]])

    def test_what_it_told_and_not_what_it_pays(self):
        self.assertEqual(last(slices(3, 4), bid(6, 9, 8), told(6)), [0, 17])

    def test_0_for_who_gets_none(self):
        self.assertEqual(last(slices(2, 5), bid(1, 4), bid(2, 9), told(1)), [0, 0])
        self.assertEqual(last(slices(2, 5), bid(1), told(1)), [0, 0])
        self.assertEqual(last(slices(2, -5), bid(1, -6, -7), told(1)), [0, 0])

    def test_all_stay_but_some(self):
        self.assertEqual(ask(slices(5, 7), bid(1, 9, 6), bid(8, 8), told(1), told(8))[3:], [[0, 9], [0, 8]])

    def test_ties(self):
        self.assertEqual(ask(slices(3, 5), bid(2, 5, 5), bid(1, 5, 5), told(1), told(2))[3:], [[0, 10], [0, 5]])
        self.assertEqual(ask(slices(1, 5), bid(2, 5), bid(8, 5), told(2), told(8))[3:], [[0, 5], [0, 0]])

    def test_below_0(self):
        self.assertEqual(last(slices(3, -10), bid(1, -1, -4, -20), told(1)), [0, -5])

    def test_the_utmost(self):
        for n in (1, 60):
            for who in (1, 8):
                self.assertEqual(last(slices(n, -TOP), bid(who, *[TOP] * n), told(who)), [0, n * TOP])
                self.assertEqual(last(slices(n, -TOP), bid(who, *[-TOP] * n), told(who)), [0, -n * TOP])

    def test_together_with_what_stays_they_are_the_greatest_sum(self):
        found = ask(slices(6, 5), bid(1, 20, 10, 4), bid(2, 15), bid(3, 8), told(1), told(2), told(3), sum_of())[4:]
        self.assertEqual(sum(answer[1] for answer in found[:3]) + 2 * 5, found[3][1])

    def test_refuses_who_has_no_bid(self):
        for who in (0, 4, 8, 9, -1, FAR, -FAR):
            self.assertEqual(last(*BOOK, told(who)), [-2], who)
        self.assertEqual(last(slices(1, 0), told(1)), [-2])
        self.assertEqual(last(*BOOK, unbid(1), told(1)), [-2])
        self.assertEqual(last(*BOOK, slices(4, 5), told(1)), [-2])

    def test_looking_changes_nothing(self):
        looked = (told(1), told(3), told(4), told(0), told(9), told(1))
        self.assertEqual(seen_after(*BOOK, *looked), seen_after(*BOOK))


if __name__ == "__main__":
    unittest.main()
