"""Promises 4 to 15 against the document's words told a second way, over many small books and some large ones."""

import itertools
import random
import unittest

from calling import (FAR, Book, ask, between, bid, gain, ifbid, income, last, pays, prices, seen_after, shows, slices,
                     split, sum_of, told, wanted)


def rows_that_never_rise(amounts, most):
    rows = []
    for length in range(most + 1):
        rows.extend(list(row) for row in itertools.combinations_with_replacement(sorted(amounts, reverse=True), length))
    return rows


def drawn_book(draw, most_slices, spread):
    n = draw.randint(1, most_slices)
    bids = {}
    for who in draw.sample(range(1, 9), draw.randint(0, 8)):
        row = [draw.randint(-spread, spread) for place in range(draw.randint(0, n))]
        bids[who] = sorted(row, reverse=True)
    return Book(n, draw.randint(-spread, spread), bids)


def drawn_truth(draw, n, spread):
    return [draw.randint(-spread, spread) for place in range(n)]


def drawn_row(draw, n, spread):
    return sorted(drawn_truth(draw, draw.randint(0, n), spread), reverse=True)


def drawn_nine(draw, n):
    """Nine numbers that are n together, mostly."""
    nine = [0] * 9
    for k in range(n):
        nine[draw.choice((0, draw.randrange(9)))] += 1
    if draw.random() < 0.1:
        nine[draw.randrange(9)] += 1
    return nine


def splits(n, places):
    """All rows of so many numbers that are n together."""
    if places == 1:
        return [[n]]
    return [[first] + others for first in range(n + 1) for others in splits(n - first, places - 1)]


class Words(unittest.TestCase):
    def check(self, book):
        self.assertEqual(seen_after(*book.calls()), book.seen(), (book.n, book.reserve, book.bids))

    def check_questions(self, book, draw, spread):
        calls = []
        expected = []
        for k in range(20):
            who = draw.randint(1, 8)
            p = draw.randint(-spread, spread)
            nine = draw.choice((book.split(), drawn_nine(draw, book.n)))
            truth = drawn_truth(draw, book.n, spread)
            row = drawn_row(draw, book.n, spread)
            calls.extend([shows(p, nine), wanted(who, p), gain(who, truth), ifbid(who, row, truth)])
            expected.extend([book.shows(p, nine), book.wanted(who, p)])
            expected.extend([book.gain(who, truth), book.ifbid(who, row, truth)])
        found = ask(*book.calls(), *calls)[-len(calls):]
        self.assertEqual(found, expected, (book.n, book.reserve, book.bids))

    def test_all_small_books(self):
        for n in (1, 2):
            rows = rows_that_never_rise((-1, 0, 1), n)
            for first, second, reserve in itertools.product(rows, rows, (-1, 0)):
                self.check(Book(n, reserve, {1: first, 2: second}))
                self.check(Book(n, reserve, {8: first, 3: second}))

    def test_drawn_books_with_many_ties(self):
        draw = random.Random(20)
        for k in range(150):
            self.check(drawn_book(draw, 8, 3))

    def test_drawn_books_with_far_amounts(self):
        draw = random.Random(21)
        for k in range(60):
            self.check(drawn_book(draw, 12, 1000000000))

    def test_drawn_large_books(self):
        draw = random.Random(22)
        for spread in (2, 40):
            self.check(drawn_book(draw, 60, spread))

    def test_prices_are_what_is_paid_and_income_what_all_pay(self):
        draw = random.Random(23)
        for k in range(100):
            book = drawn_book(draw, 60, draw.choice((2, 50, 1000000000)))
            total = 0
            for who in book.bids:
                paid, told, shares = ask(*book.calls(), pays(who), prices(who), split())[-3:]
                self.assertEqual(paid, [0, sum(told[1:])])
                self.assertEqual(told[0], shares[who])
                self.assertEqual(told[1:], sorted(told[1:]))
                total += paid[1]
            self.assertEqual(ask(*book.calls(), income())[-1], [0, total])

    def test_shows_wanted_gain_and_ifbid(self):
        draw = random.Random(24)
        for k in range(60):
            spread = draw.choice((2, 3, 1000000000))
            self.check_questions(drawn_book(draw, 6, spread), draw, spread)

    def test_all_prices_and_splits_of_small_books(self):
        for n in (1, 2):
            rows = rows_that_never_rise((-1, 0, 1), n)
            for first, second, reserve in itertools.product(rows, rows, (-1, 0)):
                book = Book(n, reserve, {1: first, 8: second})
                asked = [(p, three) for p in (-2, -1, 0, 1, 2) for three in splits(n, 3)]
                rows_of_nine = [(p, [three[0], three[1], 0, 0, 0, 0, 0, 0, three[2]]) for p, three in asked]
                found = ask(*book.calls(), *[shows(p, nine) for p, nine in rows_of_nine])[3:]
                self.assertEqual(found, [book.shows(p, nine) for p, nine in rows_of_nine])


class WhatItStandsFor(unittest.TestCase):
    def test_a_price_between_proves_the_split(self):
        draw = random.Random(25)
        for k in range(100):
            spread = draw.choice((2, 30, 1000000000))
            book = drawn_book(draw, 60, spread)
            nine, found = ask(*book.calls(), split(), between())[-2:]
            # With no offer left, nothing keeps the price up.
            for p in (found[-1], found[1] if found[0] else -FAR):
                self.assertEqual(last(*book.calls(), shows(p, nine)), [1])
            self.assertEqual(last(*book.calls(), shows(found[-1] + 1, nine)), [0])
            if found[0]:
                self.assertEqual(last(*book.calls(), shows(found[1] - 1, nine)), [0])

    def test_what_is_proven_brings_most(self):
        draw = random.Random(26)
        proven = 0
        for k in range(300):
            book = drawn_book(draw, 5, 2)
            nine = drawn_nine(draw, book.n)
            p = draw.randint(-2, 2)
            shown, most = ask(*book.calls(), shows(p, nine), sum_of())[-2:]
            if shown == [1]:
                proven += 1
                brought = nine[0] * book.reserve + sum(sum(row[:nine[who]]) for who, row in book.bids.items())
                self.assertEqual([0, brought], most)
        self.assertGreater(proven, 10)

    def test_nobody_gains_by_another_bid_than_the_truth(self):
        draw = random.Random(27)
        for k in range(60):
            book = drawn_book(draw, 8, 4)
            who = draw.randint(1, 8)
            truth = sorted(drawn_truth(draw, book.n, 4), reverse=True)
            rows = [drawn_row(draw, book.n, 4) for other in range(10)]
            found = ask(*book.calls(), ifbid(who, truth, truth), *[ifbid(who, row, truth) for row in rows])
            gains = [answer[1] for answer in found[-len(rows) - 1:]]
            self.assertEqual(gains[0], max(gains))
            self.assertGreaterEqual(gains[0], 0)

    def test_the_gain_from_ones_own_bid_is_told_less_paid(self):
        draw = random.Random(28)
        for k in range(60):
            n = draw.randint(1, 60)
            truth = sorted(drawn_truth(draw, n, 20), reverse=True)
            before = (slices(n, draw.randint(-20, 20)), bid(5, *truth), bid(2, *drawn_row(draw, n, 20)))
            gained, said, paid = ask(*before, gain(5, truth), told(5), pays(5))[-3:]
            self.assertEqual(gained[1], said[1] - paid[1])


if __name__ == "__main__":
    unittest.main()
