"""All sixteen calls in one list, in mixed order, against a second reckoning of the document's words."""

import random
import unittest

from calling import (FAR, TOP, Desk, ask, between, bid, gain, ifbid, income, offers, one, pays, prices, shows, slices,
                     split, sum_of, told, unbid, wanted)
from slicesale.house import answers

FAR_NUMBERS = (FAR, -FAR, TOP + 1, -TOP - 1, TOP, -TOP)


class Drawer:
    """Draws calls, most of them fit for the object as it is, some of them to be refused."""

    def __init__(self, seed, most_slices):
        self.draw = random.Random(seed)
        self.most_slices = most_slices
        self.n = most_slices

    def seldom(self):
        return self.draw.random() < 0.08

    def who(self):
        return self.draw.choice((0, 9, -1, FAR, -FAR)) if self.seldom() else self.draw.randint(1, 8)

    def amount(self):
        return self.draw.randint(-3, 3)

    def row(self):
        row = sorted([self.amount() for place in range(self.draw.randint(0, self.n))], reverse=True)
        if self.seldom():
            row = row + [row[-1] if row else 0] * self.draw.randint(1, self.n + 1)
        if row and self.seldom():
            row[self.draw.randrange(len(row))] = self.draw.choice(FAR_NUMBERS)
        if self.seldom():
            row.reverse()
        return row[:64]

    def truth(self):
        truth = [self.amount() for place in range(self.n)]
        if self.seldom():
            truth[self.draw.randrange(self.n)] = self.draw.choice(FAR_NUMBERS)
        if self.seldom():
            return self.draw.choice(([], truth[1:], truth + [0], [0] * 64))
        return truth

    def nine(self):
        nine = [0] * 9
        for k in range(self.n):
            nine[self.draw.randrange(9)] += 1
        if self.seldom():
            nine[self.draw.randrange(9)] = self.draw.choice((-1, 61, 60, 0, FAR, -FAR))
        if self.seldom():
            return self.draw.choice(([], nine[1:], nine + [0], [0] * 64))
        return nine

    def slices(self):
        n = self.draw.randint(1, self.most_slices)
        if self.seldom():
            return slices(self.draw.choice((0, 61, -FAR, FAR)), self.draw.choice((0,) + FAR_NUMBERS))
        if self.seldom():
            return slices(n, self.draw.choice((TOP + 1, -TOP - 1, FAR, -FAR)))
        self.n = n
        return slices(n, self.amount())

    def call(self):
        place = self.draw.choice(list(range(1, 16)) + [1] * 8)
        if self.draw.random() < 0.02:
            return self.slices()
        p = self.draw.choice((self.amount(), self.amount(), self.draw.choice(FAR_NUMBERS)))
        made = {
            1: lambda: bid(self.who(), *self.row()), 2: lambda: unbid(self.who()), 3: split, 4: sum_of,
            5: lambda: pays(self.who()), 6: lambda: prices(self.who()), 7: income, 8: lambda: told(self.who()),
            9: one, 10: between, 11: lambda: shows(p, self.nine()), 12: lambda: wanted(self.who(), p),
            13: lambda: gain(self.who(), self.truth()),
            14: lambda: ifbid(self.who(), self.row(), self.truth()), 15: offers,
        }
        return made[place]()

    def line(self, most_calls, most_numbers):
        calls = [self.call() for k in range(self.draw.randint(0, 3))] + [self.slices()]
        while len(calls) < most_calls:
            call = self.call()
            if sum(len(other) for other in calls) + len(call) > most_numbers:
                break
            calls.append(call)
        return calls


class All(unittest.TestCase):
    def check(self, calls):
        line = [number for call in calls for number in call]
        before = list(line)
        desk = Desk()
        expected = []
        for call in calls:
            answer = desk.answer(call)
            expected += [len(answer)] + answer
        self.assertEqual(answers(line), expected)
        self.assertEqual(answers(line), expected)
        self.assertEqual(line, before)

    def test_mixed_lines_of_few_slices(self):
        for seed in range(30):
            self.check(Drawer(seed, 5).line(100, 17000))

    def test_mixed_lines_of_many_slices(self):
        for seed in range(100, 103):
            self.check(Drawer(seed, 60).line(60, 17000))

    def test_mixed_lines_as_long_as_may_be(self):
        for seed in range(200, 202):
            calls = Drawer(seed, 4).line(400, 17000)
            self.assertEqual(len(calls), 400)
            self.check(calls)

    def test_a_shown_split_after_each_change(self):
        draw = Drawer(300, 4)
        calls = [slices(4, 0)]
        draw.n = 4
        for k in range(60):
            calls.append(bid(draw.who(), *draw.row()))
            nine = ask(*calls, split())[-1]
            calls.extend([shows(k % 9 - 4, nine), split(), between()])
        self.check(calls)

    def test_the_drawn_lines_have_each_call_and_each_refusal(self):
        seen = set()
        for seed in range(30):
            calls = Drawer(seed, 5).line(100, 17000)
            for call, answer in zip(calls, ask(*calls)):
                seen.add((call[0], min(answer[0], 0)))
        refusals = {0: (-1, -2), 1: (-1, -3, -4, -5), 11: (-3,), 13: (-2, -3), 14: (-1, -3, -4, -5, -6)}
        for place in (2, 5, 6, 8, 12):
            refusals[place] = (-2,)
        for place in range(16):
            for number in (0,) + refusals.get(place, ()) + ((-7,) if place else ()):
                self.assertIn((place, number), seen)


if __name__ == "__main__":
    unittest.main()
