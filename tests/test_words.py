"""Promises 4 to 8 against the document's words told a second way, over many small books and some large ones."""

import itertools
import random
import unittest

from calling import Book, ask, income, pays, prices, seen_after, split


def rows_that_never_rise(amounts, most):
    rows = []
    for length in range(most + 1):
        rows.extend(list(row) for row in itertools.combinations_with_replacement(sorted(amounts, reverse=True), length))
    return rows


def drawn_book(draw, most_slices, spread):
    n = draw.randint(1, most_slices)
    bids = {}
    for who in draw.sample(range(1, 9), draw.randint(0, 8)):
        row = [draw.randint(-spread, spread) for place in range(draw.randint(0, n))]
        bids[who] = sorted(row, reverse=True)
    return Book(n, draw.randint(-spread, spread), bids)


class Words(unittest.TestCase):
    def check(self, book):
        self.assertEqual(seen_after(*book.calls()), book.seen(), (book.n, book.reserve, book.bids))

    def test_all_small_books(self):
        for n in (1, 2):
            rows = rows_that_never_rise((-1, 0, 1), n)
            for first, second, reserve in itertools.product(rows, rows, (-1, 0)):
                self.check(Book(n, reserve, {1: first, 2: second}))
                self.check(Book(n, reserve, {8: first, 3: second}))

    def test_drawn_books_with_many_ties(self):
        draw = random.Random(20)
        for k in range(150):
            self.check(drawn_book(draw, 8, 3))

    def test_drawn_books_with_far_amounts(self):
        draw = random.Random(21)
        for k in range(60):
            self.check(drawn_book(draw, 12, 1000000000))

    def test_drawn_large_books(self):
        draw = random.Random(22)
        for spread in (2, 40):
            self.check(drawn_book(draw, 60, spread))

    def test_prices_are_what_is_paid_and_income_what_all_pay(self):
        draw = random.Random(23)
        for k in range(100):
            book = drawn_book(draw, 60, draw.choice((2, 50, 1000000000)))
            total = 0
            for who in book.bids:
                paid, told, shares = ask(*book.calls(), pays(who), prices(who), split())[-3:]
                self.assertEqual(paid, [0, sum(told[1:])])
                self.assertEqual(told[0], shares[who])
                self.assertEqual(told[1:], sorted(told[1:]))
                total += paid[1]
            self.assertEqual(ask(*book.calls(), income())[-1], [0, total])


if __name__ == "__main__":
    unittest.main()
