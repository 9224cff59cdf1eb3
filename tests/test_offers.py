"""Promise 15."""

import unittest

from calling import FAR, TOP, ask, bid, last, offers, seen_after, slices, unbid


class Offers(unittest.TestCase):
    def test_bidder_how_many_and_they(self):
        self.assertEqual(last(slices(3, 0), bid(1, 9, 8), bid(2, 7), offers()), [2, 1, 2, 9, 8, 2, 1, 7])

    def test_no_bids(self):
        self.assertEqual(last(slices(3, 5), offers()), [0])

    def test_an_empty_bid(self):
        self.assertEqual(last(slices(3, 5), bid(4), offers()), [1, 4, 0])
        self.assertEqual(last(slices(3, 5), bid(8, 2), bid(4), bid(1), offers()), [3, 1, 0, 4, 0, 8, 1, 2])

    def test_by_rising_bidders_however_they_came(self):
        expected = [3, 2, 1, 4, 5, 2, 3, 3, 7, 0]
        calls = (bid(2, 4), bid(5, 3, 3), bid(7))
        self.assertEqual(last(slices(2, 0), *calls, offers()), expected)
        self.assertEqual(last(slices(2, 0), *reversed(calls), offers()), expected)
        self.assertEqual(last(slices(2, 0), bid(7), bid(2, 1), bid(5, 3, 3), bid(2, 4), offers()), expected)

    def test_all_eight(self):
        rows = {who: [100 * who - place for place in range(60)] for who in range(1, 9)}
        expected = [8]
        for who in range(1, 9):
            expected += [who, 60] + rows[who]
        calls = [bid(who, *rows[who]) for who in (8, 3, 1, 5, 7, 2, 4, 6)]
        self.assertEqual(last(slices(60, 0), *calls, offers()), expected)

    def test_left_ones_too(self):
        self.assertEqual(last(slices(2, 50), bid(3, 9, -8), offers()), [1, 3, 2, 9, -8])

    def test_the_utmost(self):
        self.assertEqual(last(slices(2, 0), bid(8, TOP, -TOP), offers()), [1, 8, 2, TOP, -TOP])
        self.assertEqual(last(slices(1, 0), bid(1, 0), offers()), [1, 1, 1, 0])

    def test_after_another_bid_and_after_unbid(self):
        found = ask(slices(2, 0), bid(1, 5, 4), bid(1, 3), offers(), bid(2, 2), unbid(1), offers(), unbid(2), offers())
        self.assertEqual([found[3], found[6], found[8]], [[1, 1, 1, 3], [1, 2, 1, 2], [0]])

    def test_after_slices_again(self):
        self.assertEqual(last(slices(2, 0), bid(1, 5, 4), slices(2, 0), offers()), [0])

    def test_after_a_refused_bid(self):
        found = ask(slices(2, 0), bid(1, 5, 4), bid(1, 4, 5), bid(1, FAR), bid(2, 1, 1, 1), bid(9, 1), offers())
        self.assertEqual(found[2:], [[-5], [-4], [-3], [-1], [1, 1, 2, 5, 4]])

    def test_looking_changes_nothing(self):
        before = (slices(2, 0), bid(7, 5, 4), bid(1, 3))
        self.assertEqual(seen_after(*before, offers(), offers()), seen_after(*before))


if __name__ == "__main__":
    unittest.main()
