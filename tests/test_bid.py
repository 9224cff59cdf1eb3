"""Promise 2."""

import unittest

from calling import FAR, TOP, ask, bid, last, pays, prices, seen_after, slices, split, sum_of, unbid


class Bid(unittest.TestCase):
    def test_answers_how_many_bids_there_are(self):
        found = ask(slices(2, 0), bid(5, 1), bid(1, 2, 1), bid(8), bid(2, 0))
        self.assertEqual(found[1:], [[1], [2], [3], [4]])

    def test_all_bidders_may_bid(self):
        calls = [bid(who, 10 - who) for who in range(1, 9)]
        self.assertEqual(ask(slices(9, 0), *calls)[1:], [[k] for k in range(1, 9)])
        self.assertEqual(last(slices(9, 0), *calls, split()), [1] + [1] * 8)

    def test_in_the_place_of_one_thats_there(self):
        found = ask(slices(3, 0), bid(1, 9, 8), bid(2, 7), bid(1, 5), split(), sum_of())
        self.assertEqual(found[3:], [[2], [1, 1, 1, 0, 0, 0, 0, 0, 0], [0, 12]])
        self.assertEqual(
            seen_after(slices(3, 0), bid(1, 9, 8), bid(2, 7), bid(1, 5)),
            seen_after(slices(3, 0), bid(1, 5), bid(2, 7)),
        )

    def test_a_longer_one_in_the_place_of_a_shorter(self):
        self.assertEqual(
            seen_after(slices(3, 0), bid(1, 5), bid(2, 7), bid(1, 9, 8, 8)),
            seen_after(slices(3, 0), bid(2, 7), bid(1, 9, 8, 8)),
        )

    def test_an_empty_one_is_a_bid(self):
        found = ask(slices(2, 0), bid(3), split(), pays(3), prices(3), unbid(3))
        self.assertEqual(found[1:], [[1], [2] + [0] * 8, [0, 0], [0], [0]])

    def test_an_empty_one_in_the_place_of_one_thats_there(self):
        found = ask(slices(2, 0), bid(3, 5, 4), bid(3), split(), pays(3))
        self.assertEqual(found[2:], [[1], [2] + [0] * 8, [0, 0]])

    def test_refuses_others_than_bidders(self):
        for who in (0, 9, -1, -8, FAR, -FAR):
            self.assertEqual(last(slices(2, 0), bid(who, 1)), [-1], who)
            self.assertEqual(last(slices(2, 0), bid(who)), [-1], who)

    def test_first_and_last_bidder(self):
        self.assertEqual(last(slices(2, 0), bid(1, 1), split()), [1, 1, 0, 0, 0, 0, 0, 0, 0])
        self.assertEqual(last(slices(2, 0), bid(8, 1), split()), [1, 0, 0, 0, 0, 0, 0, 0, 1])

    def test_as_many_offers_as_slices_and_one_more(self):
        for n in (1, 2, 59, 60):
            self.assertEqual(last(slices(n, 0), bid(1, *[4] * n)), [1], n)
            self.assertEqual(last(slices(n, 0), bid(1, *[4] * n), split()), [0, n] + [0] * 7, n)
            self.assertEqual(last(slices(n, 0), bid(1, *[4] * (n + 1))), [-3], n)
            self.assertEqual(last(slices(n, 0), bid(1, *[4] * 64)), [-3], n)

    def test_least_and_greatest_offer(self):
        found = ask(slices(3, 0), bid(1, TOP, 0, -TOP), bid(2, TOP), sum_of())
        self.assertEqual(found[1:], [[1], [2], [0, 2 * TOP]])
        self.assertEqual(last(slices(1, -TOP), bid(1, -TOP), split()), [0, 1] + [0] * 7)

    def test_refuses_offers_beyond(self):
        for offers in ((TOP + 1,), (-TOP - 1,), (TOP + 1, 0), (0, -TOP - 1), (5, -TOP - 1, -TOP - 1), (FAR,), (-FAR,)):
            self.assertEqual(last(slices(3, 0), bid(1, *offers)), [-4], offers)

    def test_refuses_offers_that_rise(self):
        for offers in ((1, 2), (5, 5, 6), (5, 4, 5), (-2, -1), (-1, 0, -1), (0, TOP), (-TOP, -TOP + 1)):
            self.assertEqual(last(slices(3, 0), bid(1, *offers)), [-5], offers)

    def test_equal_offers_are_none_that_rise(self):
        for offers in ((2, 2), (5, 5, 5), (0, 0, -1), (TOP, TOP), (-TOP, -TOP, -TOP)):
            self.assertEqual(last(slices(3, 0), bid(1, *offers)), [1], offers)

    def test_the_bidder_is_looked_at_first(self):
        for who in (0, 9, FAR, -FAR):
            for offers in ([4] * 64, [5, 4, 3], [FAR, -FAR], [1, 2], [1, FAR, 3]):
                self.assertEqual(last(slices(2, 0), bid(who, *offers)), [-1])

    def test_how_many_offers_is_looked_at_before_them(self):
        for offers in ([FAR] * 3, [1, 2, 3], [-FAR, FAR, 0], [TOP + 1, 2, 3], list(range(64))):
            self.assertEqual(last(slices(2, 0), bid(1, *offers)), [-3])

    def test_all_bounds_are_looked_at_before_any_rise(self):
        for offers in ([1, 2, TOP + 1], [1, 2, -TOP - 1], [0, FAR], [-FAR, 0, 1], [1, TOP + 1, 0]):
            self.assertEqual(last(slices(3, 0), bid(1, *offers)), [-4])

    def test_a_refusal_leaves_all_as_it_was(self):
        before = (slices(2, 1), bid(1, 5, 0), bid(4, 3))
        refusals = {
            -1: [bid(0, 7), bid(9, 7), bid(FAR)],
            -3: [bid(1, 7, 7, 7), bid(2, 7, 7, 7)],
            -4: [bid(1, TOP + 1), bid(2, 9, -TOP - 1), bid(4, FAR)],
            -5: [bid(1, 8, 9), bid(2, 8, 9), bid(4, -2, -1)],
        }
        for number, calls in refusals.items():
            for refused in calls:
                self.assertEqual(last(*before, refused), [number], refused)
                self.assertEqual(seen_after(*before, refused), seen_after(*before), refused)
                self.assertEqual(last(*before, refused, bid(1, 2)), [2], refused)


if __name__ == "__main__":
    unittest.main()
