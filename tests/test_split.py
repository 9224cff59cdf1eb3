"""Promises 4 and 5."""

import unittest

from calling import TOP, ask, bid, last, slices, split, sum_of


def split_and_sum(*calls):
    return ask(*calls, split(), sum_of())[-2:]


class Split(unittest.TestCase):
    def test_the_greatest_offers_are_met(self):
        found = split_and_sum(slices(4, 5), bid(1, 20, 10, 6), bid(2, 15, 7), bid(3, 8))
        self.assertEqual(found, [[0, 2, 1, 1, 0, 0, 0, 0, 0], [0, 53]])

    def test_what_stays_comes_first_and_counts_with_the_reserve(self):
        found = split_and_sum(slices(5, 9), bid(2, 20, 10, 6), bid(7, 15, 7))
        self.assertEqual(found, [[2, 0, 2, 0, 0, 0, 0, 1, 0], [0, 63]])

    def test_each_bidder_has_its_own_place(self):
        for who in range(1, 9):
            expected = [1] + [0] * 8
            expected[who] = 2
            self.assertEqual(split_and_sum(slices(3, 1), bid(who, 4, 3)), [expected, [0, 8]])

    def test_of_equal_offers_the_lesser_bidders_come_first(self):
        for calls in ((bid(2, 5, 5), bid(6, 5, 5)), (bid(6, 5, 5), bid(2, 5, 5))):
            self.assertEqual(last(slices(2, 0), *calls, split()), [0, 0, 2, 0, 0, 0, 0, 0, 0])
            self.assertEqual(last(slices(3, 0), *calls, split()), [0, 0, 2, 0, 0, 0, 1, 0, 0])

    def test_one_slice_and_equal_offers(self):
        for calls in ((bid(2, 5), bid(6, 5)), (bid(6, 5), bid(2, 5))):
            self.assertEqual(last(slices(1, 0), *calls, split()), [0, 0, 1, 0, 0, 0, 0, 0, 0])

    def test_a_further_offer_of_the_lesser_bidder_is_ahead_of_a_first_one(self):
        found = last(slices(3, 0), bid(3, 5), bid(1, 9, 5, 5), bid(2, 6), split())
        self.assertEqual(found, [0, 2, 1, 0, 0, 0, 0, 0, 0])

    def test_ties_go_by_bidder_even_if_the_bid_was_replaced(self):
        found = last(slices(1, 0), bid(1, 3), bid(2, 5), bid(1, 5), split())
        self.assertEqual(found, [0, 1, 0, 0, 0, 0, 0, 0, 0])

    def test_all_eight_tie(self):
        calls = [bid(who, 3, 3) for who in (8, 7, 6, 5, 4, 3, 2, 1)]
        self.assertEqual(last(slices(5, 3), *calls, split()), [0, 2, 2, 1, 0, 0, 0, 0, 0])
        self.assertEqual(last(slices(15, 3), *calls, split()), [0, 2, 2, 2, 2, 2, 2, 2, 1])
        self.assertEqual(last(slices(17, 3), *calls, split()), [1, 2, 2, 2, 2, 2, 2, 2, 2])

    def test_bidders_come_before_the_house_at_the_reserve(self):
        self.assertEqual(split_and_sum(slices(2, 5), bid(8, 5, 5)), [[0, 0, 0, 0, 0, 0, 0, 0, 2], [0, 10]])
        self.assertEqual(split_and_sum(slices(2, 5), bid(1, 5, 4)), [[1, 1, 0, 0, 0, 0, 0, 0, 0], [0, 10]])
        self.assertEqual(split_and_sum(slices(1, 0), bid(4, 0)), [[0, 0, 0, 0, 1, 0, 0, 0, 0], [0, 0]])

    def test_offers_below_the_reserve_are_left(self):
        self.assertEqual(split_and_sum(slices(2, 5), bid(1, 4, 4), bid(2, 4)), [[2] + [0] * 8, [0, 10]])

    def test_offers_below_0(self):
        found = split_and_sum(slices(3, -10), bid(1, -1, -20), bid(2, -10, -10))
        self.assertEqual(found, [[0, 1, 2, 0, 0, 0, 0, 0, 0], [0, -21]])
        self.assertEqual(split_and_sum(slices(3, -10), bid(1, -11)), [[3] + [0] * 8, [0, -30]])
        self.assertEqual(split_and_sum(slices(1, 0), bid(1, -1)), [[1] + [0] * 8, [0, 0]])

    def test_who_makes_no_further_offer_gets_no_further_slice(self):
        self.assertEqual(split_and_sum(slices(3, -TOP), bid(1, TOP)), [[2, 1] + [0] * 7, [0, -TOP]])

    def test_no_bids_and_empty_bids(self):
        self.assertEqual(split_and_sum(slices(3, 2)), [[3] + [0] * 8, [0, 6]])
        self.assertEqual(split_and_sum(slices(3, 2), bid(1), bid(8)), [[3] + [0] * 8, [0, 6]])

    def test_greatest_and_least_sum(self):
        self.assertEqual(last(slices(60, -TOP), bid(8, *[TOP] * 60), sum_of()), [0, 60 * TOP])
        self.assertEqual(last(slices(60, -TOP), bid(8, *[-TOP] * 60), sum_of()), [0, -60 * TOP])
        self.assertEqual(last(slices(60, -TOP), bid(8, *[-TOP] * 60), split()), [0] * 8 + [60])

    def test_a_full_book(self):
        calls = [bid(who, *[100 * who - k for k in range(60)]) for who in range(1, 9)]
        self.assertEqual(last(slices(60, 0), *calls, split()), [0] * 8 + [60])
        calls = [bid(who, *[60 - k for k in range(60)]) for who in range(1, 9)]
        self.assertEqual(last(slices(60, 0), *calls, split()), [0, 8, 8, 8, 8, 7, 7, 7, 7])

    def test_looking_changes_nothing(self):
        before = (slices(3, 2), bid(1, 5, 1), bid(2, 4))
        self.assertEqual(ask(*before, split(), sum_of(), split(), sum_of())[3:], split_and_sum(*before) * 2)


if __name__ == "__main__":
    unittest.main()
