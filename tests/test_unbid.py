"""Promise 3."""

import unittest

from calling import FAR, ask, bid, last, pays, seen_after, slices, unbid


class Unbid(unittest.TestCase):
    def test_answers_how_many_bids_there_are_then(self):
        found = ask(slices(2, 0), bid(5, 1), bid(1, 2, 1), bid(8), unbid(1), unbid(8), unbid(5))
        self.assertEqual(found[4:], [[2], [1], [0]])

    def test_the_bid_is_gone(self):
        before = (slices(3, 1), bid(1, 9, 8), bid(2, 7), bid(3, 6, 6))
        self.assertEqual(seen_after(*before, unbid(1)), seen_after(slices(3, 1), bid(2, 7), bid(3, 6, 6)))
        self.assertEqual(seen_after(*before, unbid(2)), seen_after(slices(3, 1), bid(1, 9, 8), bid(3, 6, 6)))
        self.assertEqual(last(*before, unbid(3), pays(3)), [-2])

    def test_slices_and_reserve_stay(self):
        self.assertEqual(seen_after(slices(3, -4), bid(8, 2), unbid(8)), seen_after(slices(3, -4)))

    def test_refuses_who_has_no_bid(self):
        for who in (1, 2, 7, 8, 0, 9, -1, FAR, -FAR):
            self.assertEqual(last(slices(3, 1), bid(3, 5), unbid(who)), [-2], who)
            self.assertEqual(last(slices(3, 1), unbid(who)), [-2], who)

    def test_refuses_the_second_time(self):
        self.assertEqual(ask(slices(3, 1), bid(3, 5), unbid(3), unbid(3))[2:], [[0], [-2]])

    def test_who_is_gone_may_bid_again(self):
        found = ask(slices(3, 1), bid(3, 5), bid(4, 5), unbid(3), bid(3, 2))
        self.assertEqual(found[3:], [[1], [2]])
        self.assertEqual(
            seen_after(slices(3, 1), bid(3, 5), bid(4, 5), unbid(3), bid(3, 5)),
            seen_after(slices(3, 1), bid(3, 5), bid(4, 5)),
        )

    def test_a_refusal_leaves_all_as_it_was(self):
        before = (slices(2, 1), bid(1, 5, 0), bid(4, 3))
        for who in (0, 2, 8, 9, FAR, -FAR):
            self.assertEqual(seen_after(*before, unbid(who)), seen_after(*before))
            self.assertEqual(last(*before, unbid(who), bid(1, 2)), [2])


if __name__ == "__main__":
    unittest.main()
