"""Promise 11."""

import unittest

from calling import FAR, TOP, ask, bid, last, seen_after, shows, slices, split

BOOK = (slices(4, 5), bid(1, 20, 10, 6), bid(2, 15, 7), bid(3, 8))


def nine(*numbers):
    return list(numbers) + [0] * (9 - len(numbers))


class Shows(unittest.TestCase):
    def check(self, before, p, numbers, expected):
        self.assertEqual(last(*before, shows(p, numbers)), [expected], (p, numbers))

    def test_the_split_at_a_price_between(self):
        found = last(*BOOK, split())
        self.check(BOOK, 7, found, 1)
        self.check(BOOK, 8, found, 1)
        self.check(BOOK, 6, found, 0)
        self.check(BOOK, 9, found, 0)

    def test_another_split_at_no_price(self):
        for p in range(3, 22):
            self.check(BOOK, p, nine(0, 1, 2, 1), 0)
            self.check(BOOK, p, nine(1, 2, 1, 0), 0)
            self.check(BOOK, p, nine(4), 0)

    def test_with_ties_each_split_that_brings_most(self):
        before = (slices(2, 5), bid(1, 5, 5), bid(8, 5))
        for numbers in (nine(2), nine(1, 1), nine(0, 2), [0, 1, 0, 0, 0, 0, 0, 0, 1], [1, 0, 0, 0, 0, 0, 0, 0, 1]):
            self.check(before, 5, numbers, 1)
            self.check(before, 4, numbers, 0)
            self.check(before, 6, numbers, 0)

    def test_they_are_not_n_together(self):
        before = (slices(2, 5), bid(1, 5, 5))
        self.check(before, 5, nine(1, 1), 1)
        self.check(before, 5, nine(0, 1), 0)
        self.check(before, 5, nine(1, 2), 0)
        self.check(before, 5, nine(2, 2), 0)
        self.check(before, 5, nine(), 0)

    def test_more_slices_than_offers(self):
        before = (slices(2, 5), bid(1, 9))
        self.check(before, 5, nine(1, 1), 1)
        self.check(before, 5, nine(0, 2), 0)

    def test_an_offer_for_a_slice_that_it_gets_is_less(self):
        before = (slices(2, 5), bid(1, 9, 6))
        self.check(before, 6, nine(0, 2), 1)
        self.check(before, 7, nine(0, 2), 0)

    def test_an_offer_for_another_slice_is_greater(self):
        before = (slices(2, 5), bid(1, 9, 6))
        self.check(before, 5, nine(0, 2), 1)
        self.check(before, 5, nine(1, 1), 0)
        self.check((slices(2, 5), bid(1, 9, 5)), 5, nine(1, 1), 1)

    def test_a_bidder_without_a_bid(self):
        before = (slices(2, 5), bid(1, 5))
        self.check(before, 5, nine(1, 1), 1)
        for place in range(2, 9):
            numbers = nine(1)
            numbers[place] = 1
            self.check(before, 5, numbers, 0)
            self.check(before + (bid(place),), 5, numbers, 0)
            self.check(before + (bid(place, 5),), 5, numbers, 1)

    def test_an_offer_of_the_house_that_stays_is_less(self):
        before = (slices(2, 5), bid(1, 9))
        self.check(before, 5, nine(1, 1), 1)
        self.check(before, 6, nine(1, 1), 0)

    def test_an_offer_of_the_house_that_goes_is_greater(self):
        self.check((slices(2, 5), bid(1, 5, 5)), 5, nine(0, 2), 1)
        self.check((slices(2, 5), bid(1, 4, 4)), 4, nine(0, 2), 0)
        self.check((slices(2, 5), bid(1, 5, 5)), 4, nine(0, 2), 0)

    def test_the_house_has_no_more_than_n_offers(self):
        self.check((slices(2, 5),), 5, nine(3), 0)
        self.check((slices(2, 5),), 5, nine(60), 0)

    def test_the_first_is_the_houses_and_the_others_go_by_bidders(self):
        for who in range(1, 9):
            before = (slices(3, 1), bid(who, 4, 3))
            for place in range(1, 9):
                numbers = nine(1)
                numbers[place] = 2
                self.check(before, 1, numbers, 1 if place == who else 0)

    def test_below_0(self):
        before = (slices(3, -10), bid(1, -1, -20), bid(2, -10, -10))
        self.check(before, -10, nine(0, 1, 2), 1)
        self.check(before, -10, nine(2, 1, 0), 1)
        self.check(before, -9, nine(0, 1, 2), 0)
        self.check(before, -11, nine(0, 1, 2), 0)
        self.check(before, 0, nine(0, 1, 2), 0)

    def test_least_and_most_slices(self):
        for n in (1, 60):
            self.check((slices(n, 3),), 3, nine(n), 1)
            self.check((slices(n, 3),), 4, nine(n), 0)
            self.check((slices(n, 3), bid(8, *[4] * n)), 4, [0] * 8 + [n], 1)
            self.check((slices(n, 3), bid(8, *[4] * n)), 3, [0] * 8 + [n], 1)
            self.check((slices(n, 3), bid(8, *[4] * n)), 2, [0] * 8 + [n], 0)

    def test_the_utmost_prices(self):
        for n in (1, 60):
            self.check((slices(n, 0),), -FAR, nine(n), 1)
            self.check((slices(n, -TOP),), -FAR, nine(n), 1)
            self.check((slices(n, TOP),), FAR, nine(n), 0)
            self.check((slices(n, 0), bid(1, -TOP)), -FAR, nine(n), 0)
            self.check((slices(n, 0), bid(1, *[TOP] * n)), FAR, nine(0, n), 0)

    def test_refuses_other_than_nine_numbers(self):
        for how_many in (0, 1, 8, 10, 18, 64):
            for number in (0, 1, 60, 61, FAR):
                self.assertEqual(last(*BOOK, shows(7, [number] * how_many)), [-3], how_many)
        self.assertEqual(last(*BOOK, shows(7, [0, 2, 1, 1, 0, 0, 0, 0])), [-3])
        self.assertEqual(last(*BOOK, shows(7, [0, 2, 1, 1, 0, 0, 0, 0, 0, 0])), [-3])

    def test_refuses_numbers_beyond(self):
        for place in range(9):
            for number in (-1, 61, FAR, -FAR):
                numbers = nine()
                numbers[place] = number
                self.assertEqual(last(*BOOK, shows(7, numbers)), [-3], numbers)
            for number in (0, 60):
                numbers = nine()
                numbers[place] = number
                self.assertEqual(last(*BOOK, shows(7, numbers)), [0], numbers)

    def test_refuses_numbers_beyond_that_are_n_together(self):
        self.assertEqual(last(slices(2, 5), shows(5, nine(3, -1))), [-3])
        self.assertEqual(last(slices(60, 5), shows(5, nine(61, -1))), [-3])
        self.assertEqual(last(slices(60, 5), shows(5, [60] * 9)), [0])

    def test_a_refusal_leaves_all_as_it_was(self):
        for p, numbers in ((7, []), (7, [0] * 8), (7, nine(-1)), (-FAR, nine(61)), (FAR, [9] * 64)):
            refused = shows(p, numbers)
            self.assertEqual(last(*BOOK, refused), [-3])
            self.assertEqual(seen_after(*BOOK, refused), seen_after(*BOOK))

    def test_looking_changes_nothing(self):
        looked = (shows(7, nine(0, 2, 1, 1)), shows(5, nine(4)), shows(7, nine(0, 2, 1, 1)))
        self.assertEqual(ask(*BOOK, *looked)[4:], [[1], [0], [1]])
        self.assertEqual(seen_after(*BOOK, *looked), seen_after(*BOOK))


if __name__ == "__main__":
    unittest.main()
