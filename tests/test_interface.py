"""The calls and the interface: what stands ahead of the promises, and the form of what is handed in and given back."""

import contextlib
import io
import unittest

from calling import (FAR, TOP, ask, between, bid, gain, ifbid, income, last, offers, one, pays, prices, seen_after,
                     shows, slices, split, sum_of, take_apart, told, unbid, wanted)
from slicesale.house import answers

# All sixteen calls, with what each of them answers beside it.
PAIRS = (
    ([0, 2, 1], [1, 0]),
    ([1, 5, 1, 4], [1, 1]),
    ([1, 3, 2, 9, 0], [1, 2]),
    ([3], [9, 0, 0, 0, 1, 0, 1, 0, 0, 0]),
    ([4], [2, 0, 13]),
    ([5, 3], [2, 0, 1]),
    ([6, 3], [2, 1, 1]),
    ([7], [2, 0, 2]),
    ([8, 3], [2, 0, 9]),
    ([9], [2, 1, 1]),
    ([10], [3, 1, 1, 4]),
    ([11, 4, 9, 0, 0, 0, 1, 0, 1, 0, 0, 0], [1, 1]),
    ([12, 3, 0], [1, 3]),
    ([13, 3, 2, 20, 30], [2, 0, 19]),
    ([14, 8, 1, 7, 2, -5, 6], [2, 0, -9]),
    ([15], [8, 2, 3, 2, 9, 0, 5, 1, 4]),
    ([2, 5], [1, 1]),
    ([2, 5], [1, -2]),
    ([1, 9, 0], [1, -1]),
    ([9], [2, 1, 1]),
    ([10], [3, 1, 1, 1]),
    ([2, 3], [1, 0]),
    ([9], [1, 0]),
    ([10], [2, 0, 1]),
    ([15], [1, 0]),
)
LINE = [number for call, answer in PAIRS for number in call]
ANSWERED = [number for call, answer in PAIRS for number in answer]


def refuse(self, *given):
    raise AssertionError("what is handed in is changed")


class Guarded(list):
    """A list that cannot be changed, not for a while either."""

    append = clear = extend = insert = pop = remove = reverse = sort = refuse
    __setitem__ = __delitem__ = __iadd__ = __imul__ = refuse


class Form(unittest.TestCase):
    def test_counts_stand_ahead_of_each_answer(self):
        self.assertEqual(answers(LINE), ANSWERED)

    def test_one_call(self):
        self.assertEqual(answers([0, 1, 0]), [1, 0])
        self.assertEqual(answers([3]), [1, -7])

    def test_what_is_handed_in_is_as_it_was(self):
        line = list(LINE)
        answers(line)
        self.assertEqual(line, LINE)

    def test_what_is_handed_in_is_not_changed_for_a_while_either(self):
        self.assertEqual(answers(Guarded(LINE)), ANSWERED)

    def test_twice_gives_the_same(self):
        self.assertEqual(answers(LINE), answers(LINE))

    def test_nothing_is_kept_from_one_time_to_the_next(self):
        answers([0, 2, 1, 1, 3, 1, 9])
        self.assertEqual(answers([3]), [1, -7])
        self.assertEqual(answers([0, 2, 1, 1, 4, 1, 9]), [1, 0, 1, 1])

    def test_what_is_given_back_is_new_each_time(self):
        first = answers(LINE)
        first.append(5)
        self.assertEqual(answers(LINE), ANSWERED)

    def test_lists_of_plain_whole_numbers(self):
        found = answers(LINE)
        self.assertIs(type(found), list)
        self.assertEqual({type(number) for number in found}, {int})

    def test_nothing_is_printed(self):
        printed = io.StringIO()
        with contextlib.redirect_stdout(printed), contextlib.redirect_stderr(printed):
            answers(LINE)
        self.assertEqual(printed.getvalue(), "")

    def test_bids_may_hold_numbers_that_look_like_calls(self):
        found = ask(slices(3, 0), bid(1, 7, 4, 3), bid(2, 1, 0), bid(3, 0), bid(4), split())
        self.assertEqual(found, [[0], [1], [2], [3], [4], [0, 3, 0, 0, 0, 0, 0, 0, 0]])
        found = ask(slices(2, 0), ifbid(1, [15], [9, 10]), ifbid(2, [], [3, 15]), ifbid(0, [9, 9], []), offers())
        self.assertEqual(found, [[0], [0, 9], [0, 0], [-1], [0]])

    def test_after_a_refusal_the_next_call_is_found(self):
        long = [FAR, -FAR] * 32
        found = ask(slices(61, FAR), bid(1, *long), slices(2, 0), bid(9, *long), bid(1, *long), bid(1, 3), split())
        self.assertEqual(found, [[-1], [-7], [0], [-1], [-3], [1], [1, 1, 0, 0, 0, 0, 0, 0, 0]])
        calls = (shows(FAR, long), gain(1, long), ifbid(9, long, long), ifbid(1, [], long), wanted(9, FAR), told(0))
        found = ask(*calls, slices(2, 0), bid(1, 3), *calls, offers())
        self.assertEqual(found, [[-7]] * 6 + [[0], [1]] + [[-3], [-3], [-1], [-6], [-2], [-2]] + [[1, 1, 1, 3]])

    def test_lists_of_0_and_64_numbers(self):
        for n in (1, 60):
            found = ask(slices(n, 0), bid(1), shows(0, []), gain(1, []), ifbid(1, [], []), offers())
            self.assertEqual(found, [[0], [1], [-3], [-3], [-6], [1, 1, 0]])
            full = [1] * 64
            found = ask(slices(n, 0), bid(1, *full), bid(1), shows(0, full), gain(1, full), ifbid(1, full, full),
                        ifbid(1, [], full), offers())
            self.assertEqual(found, [[0], [-3], [1], [-3], [-3], [-3], [-6], [1, 1, 0]])


class BeforeSlices(unittest.TestCase):
    def test_refused_first_of_all(self):
        numbers = (1, 8, 0, 9, FAR, -FAR)
        calls = [split(), sum_of(), income(), one(), between(), offers()]
        for who in numbers:
            calls.extend([bid(who), bid(who, 1), bid(who, *[FAR] * 64), bid(who, 1, 2), unbid(who)])
            calls.extend([pays(who), prices(who), told(who), wanted(who, 0), wanted(who, FAR)])
            calls.extend([gain(who, []), gain(who, [FAR] * 64)])
            calls.extend([shows(who, []), shows(who, [0] * 9), shows(who, [61] * 9), shows(who, [0] * 64)])
            calls.extend([ifbid(who, [], []), ifbid(who, [1], [1]), ifbid(who, [1, 2], [])])
            calls.append(ifbid(who, [FAR] * 64, [FAR] * 64))
        for call in calls:
            self.assertEqual(ask(call), [[-7]], call)
        self.assertEqual(ask(*calls), [[-7]] * len(calls))

    def test_a_refused_bid_is_not_there_later(self):
        self.assertEqual(seen_after(bid(1, 5), slices(2, 1)), seen_after(slices(2, 1)))
        self.assertEqual(last(bid(1, 5), slices(2, 1), bid(2, 5)), [1])

    def test_never_behind_slices(self):
        found = ask(slices(1, 0), bid(1), unbid(1), unbid(1), split(), sum_of(), pays(1), prices(1), income(), told(1),
                    one(), between(), shows(0, []), wanted(1, 0), gain(1, []), ifbid(1, [], []), offers())
        self.assertNotIn([-7], found)
        self.assertNotIn([-7], seen_after(slices(1, 0), slices(0, 0)))


class Bounds(unittest.TestCase):
    def test_all_400_calls_with_as_many_numbers_as_may_be(self):
        calls = [slices(60, -TOP)]
        while len(calls) < 240:
            who = len(calls) % 8 + 1
            calls.append(bid(who, *[TOP - who - place for place in range(64 if len(calls) % 3 else 60)]))
        views = (income(), split(), prices(8), pays(1), sum_of())
        while len(calls) < 400:
            calls.append(views[len(calls) % 5])
        line = [number for call in calls for number in call]
        self.assertLessEqual(len(line), 17000)
        self.assertGreater(len(line), 15000)
        before = list(line)
        found = take_apart(answers(line))
        self.assertEqual(line, before)
        self.assertEqual(len(found), 400)
        for call, answer in zip(calls, found):
            if call[0] == 1:
                self.assertEqual(answer[0] == -3, call[2] == 64)
        self.assertEqual(found[240:], (found[240:245] * 32))

    def test_17000_numbers(self):
        calls = [slices(60, 0)] + [bid(1, *[-place for place in range(60)]) for k in range(255)]
        calls = calls + [bid(2, *[FAR] * 64) for k in range(13)]
        line = [number for call in calls for number in call]
        line = line + [3] * 61
        self.assertEqual(len(line), 17000)
        self.assertEqual(take_apart(answers(line))[-1], [59, 1] + [0] * 7)

    def test_400_calls_of_each_kind_over_a_full_book(self):
        full = [bid(who, *[TOP - who - place for place in range(60)]) for who in range(1, 9)]
        nine = last(slices(60, -TOP), *full, split())
        p = last(slices(60, -TOP), *full, between())[1]
        truth = [TOP] * 60
        asked = (told(8), one(), between(), shows(p, nine), wanted(1, -FAR), gain(4, truth), ifbid(5, [TOP], truth),
                 offers())
        calls = [slices(60, -TOP)] + full
        while len(calls) < 400:
            calls.append(asked[len(calls) % 8])
        line = [number for call in calls for number in call]
        self.assertLessEqual(len(line), 17000)
        found = take_apart(answers(line))
        self.assertEqual(len(found), 400)
        self.assertEqual(found[9:393], found[9:17] * 48)
        self.assertEqual(found[11], [1])
        self.assertEqual(len(found[15]), 1 + 8 * 62)

    def test_400_slices_calls(self):
        self.assertEqual(answers([0, 60, 0] * 400), [1, 0] * 400)

    def test_400_refusals(self):
        self.assertEqual(answers([7] * 400), [1, -7] * 400)


if __name__ == "__main__":
    unittest.main()
