"""Promises 13 and 14."""

import unittest

from calling import FAR, TOP, ask, bid, gain, ifbid, last, offers, seen_after, slices, unbid

# Bidder 1 gets two slices and pays 12, bidder 2 one for 6, bidder 3 one for 7, bidder 4 none.
BOOK = (slices(4, 5), bid(1, 20, 10, 6), bid(2, 15, 7), bid(3, 8), bid(4, 3))


class Gain(unittest.TestCase):
    def test_a_truth_that_falls(self):
        self.assertEqual(last(*BOOK, gain(1, [20, 10, 6, 0])), [0, 18])
        self.assertEqual(last(*BOOK, gain(2, [15, 7, 0, 0])), [0, 9])

    def test_a_truth_that_rises(self):
        self.assertEqual(last(*BOOK, gain(1, [1, 30, 100, 1000])), [0, 19])
        self.assertEqual(last(*BOOK, gain(3, [1, 30, 100, 1000])), [0, -6])

    def test_a_truth_below_0(self):
        self.assertEqual(last(*BOOK, gain(1, [-5, -6, -7, -8])), [0, -23])
        self.assertEqual(last(slices(2, -9), bid(1, -3), gain(1, [-4, 0])), [0, 5])

    def test_0_for_who_gets_none(self):
        self.assertEqual(last(*BOOK, gain(4, [50, 60, 70, 80])), [0, 0])
        self.assertEqual(last(*BOOK, bid(5), gain(5, [50, 60, 70, 80])), [0, 0])

    def test_who_gets_all(self):
        self.assertEqual(last(slices(3, 2), bid(8, 9, 9, 9), gain(8, [1, 20, 300])), [0, 321 - 6])

    def test_least_and_most_slices(self):
        for n in (1, 60):
            for who in (1, 8):
                before = (slices(n, TOP), bid(who, *[TOP] * n))
                self.assertEqual(last(*before, gain(who, [TOP] * n)), [0, 0])
                self.assertEqual(last(*before, gain(who, [-TOP] * n)), [0, -2 * n * TOP])
                before = (slices(n, -TOP), bid(who, *[TOP] * n))
                self.assertEqual(last(*before, gain(who, [TOP] * n)), [0, 2 * n * TOP])

    def test_refuses_who_has_no_bid(self):
        for who in (0, 5, 8, 9, -1, FAR, -FAR):
            self.assertEqual(last(*BOOK, gain(who, [1, 1, 1, 1])), [-2], who)
        self.assertEqual(last(slices(1, 0), gain(1, [1])), [-2])
        self.assertEqual(last(*BOOK, unbid(1), gain(1, [1, 1, 1, 1])), [-2])
        self.assertEqual(last(*BOOK, slices(4, 5), gain(1, [1, 1, 1, 1])), [-2])

    def test_refuses_other_than_n_numbers(self):
        for n in (1, 2, 59, 60):
            before = (slices(n, 0), bid(1, 1), bid(2))
            for who in (1, 2):
                self.assertEqual(last(*before, gain(who, [0] * n))[0], 0)
                for how_many in (0, n - 1, n + 1, 64):
                    self.assertEqual(last(*before, gain(who, [0] * how_many)), [-3], (n, how_many))

    def test_as_many_as_slices_now(self):
        found = ask(slices(2, 0), slices(3, 0), bid(1, 1), gain(1, [1, 1]), gain(1, [1, 1, 1]))[3:]
        self.assertEqual(found, [[-3], [0, 1]])

    def test_refuses_numbers_beyond(self):
        for place in range(4):
            for number in (TOP + 1, -TOP - 1, FAR, -FAR):
                truth = [0] * 4
                truth[place] = number
                for who in (1, 2, 4):
                    self.assertEqual(last(*BOOK, gain(who, truth)), [-3], truth)
            for number in (TOP, -TOP):
                truth = [0] * 4
                truth[place] = number
                self.assertEqual(last(*BOOK, gain(1, truth)), [0, (number if place < 2 else 0) - 12])

    def test_the_bid_is_looked_at_before_the_truth(self):
        for who in (0, 5, 8, 9, FAR):
            for truth in ([], [0] * 3, [0] * 5, [FAR] * 4, [FAR] * 64):
                self.assertEqual(last(*BOOK, gain(who, truth)), [-2])

    def test_neither_an_answer_nor_a_refusal_changes_anything(self):
        calls = (gain(1, [9, 9, 9, 9]), gain(4, [1, 2, 3, 4]), gain(5, [0] * 4), gain(1, []), gain(1, [FAR] * 4))
        for call in calls:
            self.assertEqual(seen_after(*BOOK, call), seen_after(*BOOK))


class IfBid(unittest.TestCase):
    def same_as_bid(self, before, who, row, truth):
        expected = last(*before, bid(who, *row), gain(who, truth))
        self.assertEqual(last(*before, ifbid(who, row, truth)), expected, (who, row))

    def test_of_who_has_a_bid(self):
        # Met are 15, 10, 8 and 7 then, and bidder 1 pays the 5 that would be met without it.
        self.assertEqual(last(*BOOK, ifbid(1, [10], [20, 10, 6, 0])), [0, 15])
        self.assertEqual(last(*BOOK, ifbid(1, [20, 20, 20, 20], [20, 10, 6, 0])), [0, 36 - (15 + 8 + 7 + 5)])

    def test_of_who_has_none(self):
        self.assertEqual(last(*BOOK, ifbid(8, [9, 9], [30, 1, 0, 0])), [0, 30 - 8])
        self.assertEqual(last(*BOOK, ifbid(8, [12, 12], [30, 1, 0, 0])), [0, 31 - 18])
        self.assertEqual(last(slices(2, 3), ifbid(1, [3], [5, 0])), [0, 2])

    def test_its_own_offers_now_are_not_there_then(self):
        self.assertEqual(last(slices(1, 0), bid(1, 50), ifbid(1, [4], [9])), [0, 9])
        self.assertEqual(last(slices(1, 0), bid(1, 50), bid(2, 5), ifbid(1, [4], [9])), [0, 0])
        self.assertEqual(last(slices(1, 0), bid(1, 50), bid(2, 5), ifbid(1, [6], [9])), [0, 4])

    def test_no_offers(self):
        self.assertEqual(last(*BOOK, ifbid(1, [], [20, 10, 6, 0])), [0, 0])
        self.assertEqual(last(*BOOK, ifbid(8, [], [20, 10, 6, 0])), [0, 0])

    def test_ties_go_by_bidder(self):
        before = (slices(1, 0), bid(2, 5))
        self.assertEqual(ask(*before, ifbid(1, [5], [7]), ifbid(3, [5], [7]))[2:], [[0, 2], [0, 0]])

    def test_a_truth_that_rises_or_is_below_0(self):
        self.assertEqual(last(slices(2, 1), ifbid(3, [4, 4], [-9, 30])), [0, 19])
        self.assertEqual(last(slices(2, 1), ifbid(3, [4, 4], [-9, -30])), [0, -41])

    def test_the_same_as_bidding_and_asking_the_gain(self):
        truth = [14, 9, 9, 2]
        for who in range(1, 9):
            for row in ([], [5], [6, 6], [20, 10, 6], [16, 16, 9, -2], [TOP] * 4, [-TOP] * 4):
                self.same_as_bid(BOOK, who, row, truth)

    def test_least_and_most_slices(self):
        for n in (1, 60):
            for who in (1, 8):
                self.assertEqual(last(slices(n, -TOP), ifbid(who, [TOP] * n, [TOP] * n)), [0, 2 * n * TOP])
                self.assertEqual(last(slices(n, TOP), ifbid(who, [TOP] * n, [-TOP] * n)), [0, -2 * n * TOP])

    def test_the_bids_are_as_they_were(self):
        calls = [ifbid(who, row, [9, 8, 7, 6]) for who in (1, 4, 8) for row in ([], [30], [9, 9, 9, 9])]
        for call in calls:
            self.assertEqual(last(*BOOK, call)[0], 0)
            self.assertEqual(seen_after(*BOOK, call), seen_after(*BOOK))
        self.assertEqual(seen_after(*BOOK, *calls), seen_after(*BOOK))
        self.assertEqual(ask(slices(2, 0), ifbid(1, [5], [5, 5]), offers(), bid(2, 1))[2:], [[0], [1]])

    def test_refuses_others_than_bidders_first(self):
        for who in (0, 9, -1, FAR, -FAR):
            for row in ([], [1], [1] * 5, [FAR], [1, 2]):
                for truth in ([0] * 4, [], [FAR] * 4):
                    self.assertEqual(last(*BOOK, ifbid(who, row, truth)), [-1])

    def test_then_more_offers_than_slices(self):
        for row in ([1] * 5, [1] * 64, [FAR] * 5, [1, 2, 3, 4, 5], [1, 2, 3, 4, FAR]):
            for truth in ([0] * 4, [], [FAR] * 4):
                self.assertEqual(last(*BOOK, ifbid(1, row, truth)), [-3])
                self.assertEqual(last(*BOOK, ifbid(8, row, truth)), [-3])

    def test_as_many_offers_as_slices(self):
        for n in (1, 60):
            self.assertEqual(last(slices(n, 0), ifbid(1, [1] * n, [1] * n)), [0, n])
            self.assertEqual(last(slices(n, 0), ifbid(1, [1] * (n + 1), [1] * n)), [-3])

    def test_then_offers_beyond(self):
        for row in ([TOP + 1], [0, -TOP - 1], [FAR], [-FAR], [1, 2, TOP + 1], [1, TOP + 1], [-TOP - 1, 0]):
            for truth in ([0] * 4, [], [FAR] * 4):
                self.assertEqual(last(*BOOK, ifbid(1, row, truth)), [-4])
                self.assertEqual(last(*BOOK, ifbid(8, row, truth)), [-4])

    def test_then_offers_that_rise(self):
        for row in ([1, 2], [5, 5, 6], [-2, -1], [-TOP, TOP]):
            for truth in ([0] * 4, [], [FAR] * 4):
                self.assertEqual(last(*BOOK, ifbid(1, row, truth)), [-5])
                self.assertEqual(last(*BOOK, ifbid(8, row, truth)), [-5])

    def test_then_a_truth_that_hasnt_n_numbers(self):
        for n in (1, 2, 59, 60):
            for row in ([], [1], [0] * n):
                self.assertEqual(last(slices(n, 0), ifbid(1, row, [0] * n))[0], 0)
                for how_many in (0, n - 1, n + 1, 64):
                    self.assertEqual(last(slices(n, 0), ifbid(1, row, [0] * how_many)), [-6], (n, how_many))

    def test_then_a_truth_with_numbers_beyond(self):
        for place in range(4):
            for number in (TOP + 1, -TOP - 1, FAR, -FAR):
                truth = [0] * 4
                truth[place] = number
                for who in (1, 8):
                    for row in ([], [10], [30, 30, 30, 30]):
                        self.assertEqual(last(*BOOK, ifbid(who, row, truth)), [-6])
            for number in (TOP, -TOP):
                truth = [0] * 4
                truth[place] = number
                self.assertEqual(last(*BOOK, ifbid(8, [], truth)), [0, 0])
                self.assertEqual(last(*BOOK, ifbid(8, [30], truth)), [0, (number if place == 0 else 0) - 8])

    def test_who_has_no_bid_is_not_refused(self):
        for who in range(1, 9):
            self.assertEqual(last(slices(1, 0), ifbid(who, [1], [3])), [0, 3])

    def test_a_refusal_leaves_all_as_it_was(self):
        truth = [0] * 4
        refusals = {
            -1: [ifbid(0, [9], truth), ifbid(9, [9], truth)],
            -3: [ifbid(1, [9] * 5, truth), ifbid(8, [9] * 5, truth)],
            -4: [ifbid(1, [TOP + 1], truth), ifbid(8, [9, -TOP - 1], truth)],
            -5: [ifbid(1, [8, 9], truth), ifbid(8, [8, 9], truth)],
            -6: [ifbid(1, [9], truth[1:]), ifbid(8, [9], truth + [0]), ifbid(8, [9], [0, 0, 0, FAR])],
        }
        for number, calls in refusals.items():
            for refused in calls:
                self.assertEqual(last(*BOOK, refused), [number], refused)
                self.assertEqual(seen_after(*BOOK, refused), seen_after(*BOOK), refused)


if __name__ == "__main__":
    unittest.main()
