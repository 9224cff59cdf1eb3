"""Promise 1."""

import unittest

from calling import FAR, TOP, ask, bid, income, last, seen_after, slices, split, sum_of, unbid


class Slices(unittest.TestCase):
    def test_answers_0(self):
        self.assertEqual(ask(slices(3, 10)), [[0]])

    def test_all_stay_with_the_house_at_the_reserve(self):
        found = ask(slices(3, 10), split(), sum_of(), income())
        self.assertEqual(found, [[0], [3, 0, 0, 0, 0, 0, 0, 0, 0], [0, 30], [0, 0]])

    def test_least_and_most_slices(self):
        self.assertEqual(ask(slices(1, 7), split(), sum_of()), [[0], [1] + [0] * 8, [0, 7]])
        self.assertEqual(ask(slices(60, 7), split(), sum_of()), [[0], [60] + [0] * 8, [0, 420]])

    def test_refuses_other_counts(self):
        for n in (0, 61, -1, 64, -FAR, FAR):
            self.assertEqual(ask(slices(n, 0)), [[-1]], n)

    def test_least_and_greatest_reserve(self):
        self.assertEqual(ask(slices(60, TOP), sum_of()), [[0], [0, 60 * TOP]])
        self.assertEqual(ask(slices(60, -TOP), sum_of()), [[0], [0, -60 * TOP]])

    def test_refuses_a_reserve_beyond(self):
        for reserve in (TOP + 1, -TOP - 1, FAR, -FAR):
            for n in (1, 60):
                self.assertEqual(ask(slices(n, reserve)), [[-2]], reserve)

    def test_the_count_is_looked_at_before_the_reserve(self):
        for n in (0, 61, -FAR, FAR):
            for reserve in (TOP + 1, -TOP - 1, FAR, -FAR):
                self.assertEqual(ask(slices(n, reserve)), [[-1]])

    def test_again_there_are_no_bids(self):
        found = ask(slices(2, 1), bid(1, 5), bid(2, 4), slices(2, 1), split(), unbid(1), bid(3, 2))
        self.assertEqual(found, [[0], [1], [2], [0], [2] + [0] * 8, [-2], [1]])

    def test_again_there_are_the_new_count_and_reserve(self):
        self.assertEqual(seen_after(slices(2, 1), bid(1, 5), slices(4, -3)), seen_after(slices(4, -3)))
        self.assertEqual(last(slices(2, 1), bid(1, 5), slices(4, -3), sum_of()), [0, -12])

    def test_again_the_most_offers_follow_the_new_count(self):
        found = ask(slices(3, 0), slices(1, 0), bid(1, 5, 5), slices(2, 0), bid(1, 5, 5))
        self.assertEqual(found, [[0], [0], [-3], [0], [1]])

    def test_a_refusal_leaves_all_as_it_was(self):
        before = (slices(2, 1), bid(1, 5, 0), bid(4, 3))
        for refused in (slices(0, 9), slices(61, 9), slices(5, TOP + 1), slices(5, -TOP - 1)):
            self.assertLess(last(*before, refused)[0], 0)
            self.assertEqual(seen_after(*before, refused), seen_after(*before))
            self.assertEqual(ask(*before, refused, bid(2, 1, 1, 1), bid(2, 1))[-2:], [[-3], [3]])

    def test_a_refusal_at_the_beginning_leaves_no_slices(self):
        for refused in (slices(0, 0), slices(61, 0), slices(3, TOP + 1), slices(3, -TOP - 1)):
            self.assertEqual(set(tuple(answer) for answer in seen_after(refused)), {(-7,)})
            self.assertEqual(last(refused, bid(1)), [-7])
            self.assertEqual(last(refused, unbid(1)), [-7])


if __name__ == "__main__":
    unittest.main()
