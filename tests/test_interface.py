import inspect
import unittest

import nursewire.wire
from lines import (GREATEST, back, begin, blink, cut, deliver, double, drop, full_net, joined, log, lose, spoil,
                   tick)
from nursewire.wire import answers


class Watched(list):
    """A list that refuses to be changed, for a while either."""

    def refuse(self, *given, **named):
        raise AssertionError("what is handed in was changed")

    append = extend = insert = pop = remove = clear = sort = reverse = refuse
    __setitem__ = __delitem__ = __iadd__ = __imul__ = refuse


ALL_CALLS = [
    blink(), begin(2, 2, 2), begin(1, 1, 1), log(0, 1, 2, 3), log(1), log(0, *[255] * 16), log(0, *[3] * 50), tick(3),
    double(0), deliver(0), spoil(0, 1, 1), spoil(0, 1, 1), drop(0), cut(1), cut(1), log(1, 1), back(1), back(1),
    lose(0), blink(), deliver(GREATEST), tick(-GREATEST),
]


class Interface(unittest.TestCase):
    def test_name_and_argument(self):
        self.assertEqual(list(inspect.signature(nursewire.wire.answers).parameters), ["calls"])

    def test_how_many_and_then_these(self):
        self.assertEqual(answers([0, 1, 1, 1]), [1, 0])
        self.assertEqual(answers([0, 2, 3, 4, 1, 1, 2, 250, 251, 3, 0, 9, 1, 10]), [1, 0, 1, 1, 1, 2, 1, 1, 1, 0])
        self.assertEqual(answers([10]), [1, -2])

    def test_plain_lists_of_whole_numbers(self):
        given = answers(joined(ALL_CALLS))
        self.assertIs(type(given), list)
        for number in given:
            self.assertIs(type(number), int)

    def test_one_answer_for_each_call(self):
        given = answers(joined(ALL_CALLS))
        self.assertEqual(given[0::2], [1] * len(ALL_CALLS))

    def test_a_refused_row_is_passed_over_whole(self):
        # the numbers of the row would be calls themselves
        self.assertEqual(answers(joined([begin(1, 1, 1), log(0, *[10] * 17), blink(), log(3, *[10] * 50), lose(0)])),
                         [1, 0, 1, -1, 1, 0, 1, -1, 1, 0])
        self.assertEqual(answers(joined([log(0, *[10] * 16), log(0, 0, 1, 1, 1), blink()])), [1, -2, 1, -2, 1, -2])

    def test_a_row_of_each_length(self):
        for length in range(51):
            given = answers(joined([begin(1, 8, 8), log(0, *[10] * length), log(0, 1)]))
            self.assertEqual(given, [1, 0, 1, 1, 1, 2] if length <= 16 else [1, 0, 1, -1, 1, 1])

    def test_what_is_handed_in_is_not_changed(self):
        for calls in [ALL_CALLS, full_net() + [deliver(0)] * 199]:
            handed = joined(calls)
            before = list(handed)
            answers(handed)
            self.assertEqual(handed, before)
            self.assertEqual(answers(Watched(before)), answers(before))

    def test_nothing_is_kept(self):
        first = answers(joined(ALL_CALLS))
        self.assertEqual(answers(joined(ALL_CALLS)), first)
        self.assertEqual(answers([10]), [1, -2])
        self.assertEqual(answers(joined(ALL_CALLS)), first)

    def test_what_is_given_back_is_one_s_own(self):
        first = answers(joined(ALL_CALLS))
        first.clear()
        self.assertNotEqual(answers(joined(ALL_CALLS)), [])

    def test_four_hundred_calls(self):
        calls = [begin(1, 8, 50)] + [log(0, 1)] * 201 + [deliver(0), drop(0)] * 8 + [blink()] * 182
        self.assertEqual(len(calls), 400)
        given = answers(joined(calls))
        self.assertEqual(given[0::2], [1] * 400)
        # every other frame of data is delivered: 0 is copied, 2, 4 and 6 are put aside; the first of the four acks
        # that are left brings the place 8, which is put aside too
        rounds = [2, 0] * 4 + [2, 0, 1, 0, 2, 0, -4, -4]
        self.assertEqual(given[1::2], [0] + list(range(1, 201)) + [-7] + rounds + [4] + [0] * 181)

    def test_a_list_as_long_as_may_be(self):
        calls = joined([log(0, *[GREATEST] * 37)] * 400)
        self.assertEqual(len(calls), 16000)
        self.assertEqual(answers(calls), [1, -1] * 400)

    def test_four_hundred_busy_calls(self):
        calls = [begin(4, 8, 1)] + [log(m, *[255] * 16) for m in range(4) for j in range(8)] + [tick(100)] * 367
        self.assertEqual(answers(joined(calls))[-2:], [1, 0])


if __name__ == "__main__":
    unittest.main()
