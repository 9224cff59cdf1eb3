"""Promises 6, 7 and 8."""

import unittest

from calling import FAR, TOP, ask, bid, income, last, pays, prices, seen_after, slices, unbid

BOOK = (slices(4, 5), bid(1, 20, 10, 6), bid(2, 15, 7), bid(3, 8))


class Pays(unittest.TestCase):
    def test_what_the_others_lose(self):
        # Met are 20, 10 of bidder 1, 15 of bidder 2, 8 of bidder 3.
        self.assertEqual(last(*BOOK, pays(1)), [0, (15 + 8 + 7 + 5) - (15 + 8)])
        self.assertEqual(last(*BOOK, pays(2)), [0, (20 + 10 + 8 + 6) - (20 + 10 + 8)])
        self.assertEqual(last(*BOOK, pays(3)), [0, (20 + 15 + 10 + 7) - (20 + 15 + 10)])

    def test_alone_the_reserve_is_paid(self):
        self.assertEqual(last(slices(3, 4), bid(6, 9, 9), pays(6)), [0, 8])
        self.assertEqual(last(slices(3, -4), bid(6, 9, 9), pays(6)), [0, -8])
        self.assertEqual(last(slices(3, 0), bid(6, 9, 9), pays(6)), [0, 0])

    def test_the_houses_met_offers_are_among_the_others(self):
        self.assertEqual(last(slices(5, 7), bid(1, 9), bid(2, 8), pays(1)), [0, 7])

    def test_who_gets_none_pays_0(self):
        self.assertEqual(last(slices(2, 5), bid(1, 4), bid(2, 9), pays(1)), [0, 0])
        self.assertEqual(last(slices(2, 5), bid(1), pays(1)), [0, 0])

    def test_ties(self):
        calls = (slices(1, 0), bid(1, 5), bid(2, 5))
        self.assertEqual(ask(*calls, pays(1), pays(2))[3:], [[0, 5], [0, 0]])
        self.assertEqual(last(slices(1, 5), bid(3, 5), pays(3)), [0, 5])

    def test_below_0_who_takes_it_is_paid(self):
        self.assertEqual(last(slices(1, -TOP), bid(1, -3), bid(2, -8), pays(1)), [0, -8])

    def test_the_utmost(self):
        self.assertEqual(last(slices(60, TOP), bid(1, *[TOP] * 60), pays(1)), [0, 60 * TOP])
        self.assertEqual(last(slices(60, -TOP), bid(1, *[TOP] * 60), pays(1)), [0, -60 * TOP])

    def test_refuses_who_has_no_bid(self):
        for who in (0, 4, 8, 9, -1, FAR, -FAR):
            self.assertEqual(last(*BOOK, pays(who)), [-2], who)
        self.assertEqual(last(slices(1, 0), pays(1)), [-2])
        self.assertEqual(last(*BOOK, unbid(1), pays(1)), [-2])
        self.assertEqual(last(*BOOK, slices(4, 5), pays(1)), [-2])

    def test_looking_changes_nothing(self):
        looked = (pays(1), pays(2), pays(9), prices(1), prices(3), prices(0), income())
        self.assertEqual(seen_after(*BOOK, *looked), seen_after(*BOOK))
        self.assertEqual(last(*BOOK, *looked, bid(4, 1)), [4])


class Prices(unittest.TestCase):
    def test_the_least_comes_first(self):
        self.assertEqual(last(*BOOK, prices(1)), [2, 5, 7])
        self.assertEqual(last(*BOOK, prices(2)), [1, 6])
        self.assertEqual(last(*BOOK, prices(3)), [1, 7])

    def test_three_prices(self):
        found = last(slices(3, 0), bid(1, 50, 40, 30), bid(2, 9, 8, 7), bid(3, 6), prices(1))
        self.assertEqual(found, [3, 7, 8, 9])
        found = last(slices(3, -2), bid(8, 50, 40, 30), bid(2, 9), bid(3, -1), prices(8))
        self.assertEqual(found, [3, -2, -1, 9])

    def test_alone_each_costs_the_reserve(self):
        self.assertEqual(last(slices(3, 4), bid(6, 9, 9), prices(6)), [2, 4, 4])
        self.assertEqual(last(slices(60, -TOP), bid(6, *[TOP] * 60), prices(6)), [60] + [-TOP] * 60)
        self.assertEqual(last(slices(60, TOP), bid(6, *[TOP] * 60), prices(6)), [60] + [TOP] * 60)

    def test_none_for_who_gets_none(self):
        self.assertEqual(last(slices(2, 5), bid(1, 4), bid(2, 9), prices(1)), [0])
        self.assertEqual(last(slices(2, 5), bid(1), prices(1)), [0])

    def test_ties(self):
        calls = (slices(3, 5), bid(2, 5, 5), bid(1, 5))
        self.assertEqual(ask(*calls, prices(1), prices(2))[3:], [[1, 5], [2, 5, 5]])

    def test_below_0(self):
        self.assertEqual(last(slices(2, -9), bid(1, -3, -4), bid(2, -8), prices(1)), [2, -9, -8])

    def test_refuses_who_has_no_bid(self):
        for who in (0, 4, 8, 9, -1, FAR, -FAR):
            self.assertEqual(last(*BOOK, prices(who)), [-2], who)
        self.assertEqual(last(slices(1, 0), prices(1)), [-2])
        self.assertEqual(last(*BOOK, unbid(1), prices(1)), [-2])
        self.assertEqual(last(*BOOK, slices(4, 5), prices(1)), [-2])


class Income(unittest.TestCase):
    def test_what_all_pay(self):
        self.assertEqual(last(*BOOK, income()), [0, 12 + 6 + 7])

    def test_of_bids_that_are_there(self):
        self.assertEqual(last(*BOOK, unbid(1), income()), [0, (5 + 5) + 5])
        self.assertEqual(last(*BOOK, bid(4), bid(5, 1), income()), [0, 25])

    def test_no_bids(self):
        self.assertEqual(last(slices(60, TOP), income()), [0, 0])
        self.assertEqual(last(slices(2, 5), bid(1), bid(2, 4), income()), [0, 0])

    def test_below_0(self):
        self.assertEqual(last(slices(3, -6), bid(1, 2), bid(8, -1), income()), [0, -12])
        self.assertEqual(last(slices(60, -TOP), bid(8, *[-TOP] * 60), income()), [0, -60 * TOP])

    def test_all_eight(self):
        calls = [bid(who, 10 * who) for who in range(1, 9)]
        self.assertEqual(last(slices(8, 3), *calls, income()), [0, 24])
        self.assertEqual(last(slices(7, 3), *calls, income()), [0, 70])


if __name__ == "__main__":
    unittest.main()
