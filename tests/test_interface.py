import inspect
import time
import unittest

import nursewire.wire
from lines import (GREATEST, back, begin, blink, calm, copy, cut, deliver, double, drop, event, frame, full_net, joined,
                   log, lose, net, packet, sender, spoil, station, tick, told, totals, whole)
from nursewire.wire import answers


class Watched(list):
    """A list that refuses to be changed, for a while either."""

    def refuse(self, *given, **named):
        raise AssertionError("what is handed in was changed")

    append = extend = insert = pop = remove = clear = sort = reverse = refuse
    __setitem__ = __delitem__ = __iadd__ = __imul__ = refuse


ALL_CALLS = [
    blink(), begin(2, 2, 2), begin(1, 1, 1), log(0, 1, 2, 3), log(1), log(0, *[255] * 16), log(0, *[3] * 50), tick(3),
    double(0), deliver(0), spoil(0, 1, 1), spoil(0, 1, 1), drop(0), cut(1), cut(1), log(1, 1), back(1), back(1),
    lose(0), blink(), deliver(GREATEST), tick(-GREATEST),
    net(), packet(0), packet(1), sender(0), sender(1), station(0), station(1), copy(0, 0), event(0, 0), event(1, 0),
    event(0, 1), event(0, 2), whole(0), frame(72, 0, 0, 72), frame(*[3] * 50), frame(), totals(), calm(2), net(),
    calm(100), whole(0), whole(1), copy(0, 1), copy(1, 0), totals(), packet(-GREATEST), calm(GREATEST),
]


class Interface(unittest.TestCase):
    def test_name_and_argument(self):
        self.assertEqual(list(inspect.signature(nursewire.wire.answers).parameters), ["calls"])

    def test_how_many_and_then_these(self):
        self.assertEqual(answers([0, 1, 1, 1]), [1, 0])
        self.assertEqual(answers([0, 2, 3, 4, 1, 1, 2, 250, 251, 3, 0, 9, 1, 10]), [1, 0, 1, 1, 1, 2, 1, 1, 1, 0])
        self.assertEqual(answers([10]), [1, -2])

    def test_plain_lists_of_whole_numbers(self):
        given = answers(joined(ALL_CALLS))
        self.assertIs(type(given), list)
        for number in given:
            self.assertIs(type(number), int)

    def test_one_answer_for_each_call(self):
        self.assertEqual(len(told(*ALL_CALLS)), len(ALL_CALLS))

    def test_counts_stand_only_where_the_words_tell_one(self):
        # open; log; net of one packet; the packet; sender; station; event; copy; whole; calm of two machines; totals
        self.assertEqual(answers([0, 2, 8, 50, 1, 1, 1, 5, 12, 13, 0, 14, 1, 15, 1, 17, 1, 0, 16, 1, 0, 18, 1, 11, 1,
                                  20]),
                         [1, 0, 1, 1, 4, 1, 0, 1, 10, 11, 10, 68, 1, 0, 0, 0, 0, 1, 5, 0, 117, 6, 1, 1, 0, 0, 1, 0,
                          3, 0, 0, 0, 2, 1, 5, 1, -13, 1, 0, 2, 0, 1, 4, 0, 0, 0, 1])
        # frame: an ask, an ack, data, none
        self.assertEqual(answers([19, 4, 72, 0, 0, 72, 19, 10, 65, 0, 0, 0, 0, 0, 0, 0, 0, 65, 19, 9, 68, 0, 0, 0, 0,
                                  0, 0, 0, 68, 19, 0, 19, 1, 256]),
                         [3, 360, 3, 0, 5, 715, 2, 0, 0, 0, 5, 680, 1, 0, 0, 0, 2, 0, 0, 1, -1])

    def test_an_event_without_bytes_is_answered_with_one_number(self):
        self.assertEqual(answers([0, 1, 1, 1, 1, 0, 0, 17, 0, 0, 3, 0, 16, 0, 0]), [1, 0, 1, 1, 1, 0, 1, 2, 1, 0])

    def test_a_refused_row_is_passed_over_whole(self):
        # the numbers of the row would be calls themselves
        self.assertEqual(answers(joined([begin(1, 1, 1), log(0, *[10] * 17), blink(), log(3, *[10] * 50), lose(0)])),
                         [1, 0, 1, -1, 1, 0, 1, -1, 1, 0])
        self.assertEqual(answers(joined([log(0, *[10] * 16), log(0, 0, 1, 1, 1), blink()])), [1, -2, 1, -2, 1, -2])
        self.assertEqual(answers(joined([frame(*[10] * 41), blink(), frame(0, 1, 1, 1, 256), net()])),
                         [1, -1, 1, -2, 1, -1, 1, -2])

    def test_a_row_of_each_length(self):
        for length in range(51):
            given = answers(joined([begin(1, 8, 8), log(0, *[10] * length), log(0, 1)]))
            self.assertEqual(given, [1, 0, 1, 1, 1, 2] if length <= 16 else [1, 0, 1, -1, 1, 1])
            given = answers(joined([frame(*[0] * length), blink()]))
            self.assertEqual(given, [2, 0, 0, 1, -2] if length <= 40 else [1, -1, 1, -2])

    def test_what_is_handed_in_is_not_changed(self):
        for calls in [ALL_CALLS, full_net() + [deliver(0)] * 199, full_net() + [calm(3), net(), packet(0)]]:
            handed = joined(calls)
            before = list(handed)
            answers(handed)
            self.assertEqual(handed, before)
            self.assertEqual(answers(Watched(before)), answers(before))

    def test_nothing_is_kept(self):
        first = answers(joined(ALL_CALLS))
        self.assertEqual(answers(joined(ALL_CALLS)), first)
        self.assertEqual(answers([10]), [1, -2])
        self.assertEqual(answers([0, 1, 1, 1, 20, 12]), [1, 0, 4, 0, 0, 0, 0, 1, 0])
        self.assertEqual(answers(joined(ALL_CALLS)), first)

    def test_what_is_given_back_is_one_s_own(self):
        first = answers(joined(ALL_CALLS))
        first.clear()
        self.assertNotEqual(answers(joined(ALL_CALLS)), [])

    def test_four_hundred_calls(self):
        calls = [begin(1, 8, 50)] + [log(0, 1)] * 201 + [deliver(0), drop(0)] * 8 + [blink()] * 182
        self.assertEqual(len(calls), 400)
        given = answers(joined(calls))
        self.assertEqual(given[0::2], [1] * 400)
        # every other frame of data is delivered: 0 is copied, 2, 4 and 6 are put aside; the first of the four acks
        # that are left brings the place 8, which is put aside too
        rounds = [2, 0] * 4 + [2, 0, 1, 0, 2, 0, -4, -4]
        self.assertEqual(given[1::2], [0] + list(range(1, 201)) + [-7] + rounds + [4] + [0] * 181)

    def test_a_list_as_long_as_may_be(self):
        calls = joined([log(0, *[GREATEST] * 37)] * 400)
        self.assertEqual(len(calls), 16000)
        self.assertEqual(answers(calls), [1, -1] * 400)

    def test_four_hundred_busy_calls(self):
        calls = [begin(4, 8, 1)] + [log(m, *[255] * 16) for m in range(4) for j in range(8)] + [tick(100)] * 367
        self.assertEqual(answers(joined(calls))[-2:], [1, 0])

    def test_four_hundred_calls_with_calms(self):
        logs = [log(m, *[255] * 16) for m in range(4) for j in range(30)]
        # a calm of 100 rounds behind each lost copy, and then calms alone
        losses = [call for j in range(60) for call in [lose(j % 4), calm(100)]]
        calls = [begin(4, 8, 1)] + logs + [calm(100)] + losses + [calm(100)] * 158
        self.assertEqual(len(calls), 400)
        started = time.perf_counter()
        given = told(*calls)
        self.assertLess(time.perf_counter() - started, 30)
        self.assertEqual(given[121:], [[30] * 4] + [[30], [30] * 4] * 60 + [[30] * 4] * 158)

    def test_nothing_but_calms(self):
        for window, wait in [(1, 1), (8, 1), (8, 50)]:
            started = time.perf_counter()
            given = told(begin(4, window, wait), *[calm(100)] * 399)
            self.assertLess(time.perf_counter() - started, 30)
            self.assertEqual(given, [[0]] + [[0] * 4] * 399)

    def test_the_longest_answers(self):
        given = told(begin(4, 8, 1), tick(100), *[net()] * 398)
        self.assertEqual([len(part) for part in given], [1, 1] + [601] * 398)


if __name__ == "__main__":
    unittest.main()
