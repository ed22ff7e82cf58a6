import unittest

from lines import (Line, answered, back, begin, calm, copy, cut, deliver, event, log, lose, spoil, tick, told, whole)

SIXTEEN = [0, 255, 1, 254] * 4


class Event(unittest.TestCase):
    def test_each_event(self):
        self.assertEqual(told(begin(2, 1, 50), log(1, 7), log(1), log(1, *SIXTEEN), log(0, 8), event(1, 0),
                              event(1, 1), event(1, 2), event(0, 0))[5:],
                         [[1, 7], [0], [16] + SIXTEEN, [1, 8]])

    def test_the_last_one_and_behind_it(self):
        self.assertEqual(told(begin(1, 1, 50), event(0, 0), log(0, 7), event(0, 0), event(0, 1), event(0, 199))[1:],
                         [[-13], [1], [1, 7], [-13], [-13]])

    def test_two_hundred_events(self):
        self.assertEqual(told(begin(1, 1, 50), *[log(0, j, j) for j in range(199)], event(0, 198), event(0, 199),
                              log(0, 3), event(0, 199), log(0, 4), event(0, 199))[200:],
                         [[2, 198, 198], [-13], [200], [1, 3], [-7], [1, 3]])

    def test_the_log_is_never_lost(self):
        self.assertEqual(told(begin(1, 1, 50), log(0, 7), spoil(0, 7, 1), cut(0), event(0, 0), back(0), lose(0),
                              event(0, 0))[4::3],
                         [[1, 7], [1, 7]])

    def test_range_of_m(self):
        for m in [-1, 4, 1000000000000000000, -1000000000000000000]:
            self.assertEqual(answered(event(m, 0), begin(4, 8, 50), event(m, 0)), [-1, 0, -1])

    def test_range_of_j(self):
        for j in [0, 1, 198, 199]:
            self.assertEqual(answered(begin(1, 8, 50), event(0, j)), [0, -13])
        for j in [-1, 200, 201, 1000000000000000000, -1000000000000000000]:
            self.assertEqual(answered(event(0, j), begin(1, 8, 50), log(0, 7), event(0, j)), [-1, 0, 1, -1])

    def test_which_refusal_comes_first(self):
        self.assertEqual(answered(event(3, 200), event(3, 199), begin(1, 8, 50), event(3, 200), event(3, 199),
                                  event(0, 199)),
                         [-1, -2, 0, -1, -3, -13])


class Copy(unittest.TestCase):
    def test_each_event(self):
        self.assertEqual(told(begin(2, 8, 50), log(1, 7), log(1), log(1, *SIXTEEN), log(0, 8), *[deliver(0)] * 4,
                              copy(1, 0), copy(1, 1), copy(1, 2), copy(0, 0))[9:],
                         [[1, 7], [0], [16] + SIXTEEN, [1, 8]])

    def test_the_last_one_and_behind_it(self):
        self.assertEqual(told(begin(1, 8, 50), copy(0, 0), log(0, 7), copy(0, 0), deliver(0), copy(0, 0), copy(0, 1),
                              copy(0, 199))[1:],
                         [[-13], [1], [-13], [2], [1, 7], [-13], [-13]])

    def test_what_is_put_aside_is_not_in_it(self):
        self.assertEqual(told(begin(1, 8, 50), log(0, 7), log(0, 8, 9), deliver(1), copy(0, 0), copy(0, 1),
                              deliver(0), copy(0, 0), copy(0, 1), copy(0, 2))[4:],
                         [[-13], [-13], [2], [1, 7], [2, 8, 9], [-13]])

    def test_after_lose(self):
        self.assertEqual(told(begin(2, 8, 50), log(0, 7), log(1, 8), deliver(0), deliver(0), lose(0), copy(0, 0),
                              copy(1, 0), event(0, 0))[6:],
                         [[-13], [1, 8], [1, 7]])

    def test_what_came_from_a_spoiled_packet_is_not_in_it(self):
        self.assertEqual(told(begin(1, 8, 1), log(0, 7), spoil(0, 7, 1), deliver(0), copy(0, 0), tick(1), deliver(0),
                              copy(0, 0))[4:],
                         [[-13], [0], [2], [1, 7]])

    def test_two_hundred_events(self):
        self.assertEqual(told(begin(1, 8, 50), *[log(0, j, j) for j in range(199)], calm(100), copy(0, 198),
                              copy(0, 199), log(0, 3), calm(1), copy(0, 199), copy(0, 0))[200:],
                         [[199], [2, 198, 198], [-13], [200], [200], [1, 3], [2, 0, 0]])

    def test_range_of_m(self):
        for m in [-1, 4, 1000000000000000000, -1000000000000000000]:
            self.assertEqual(answered(copy(m, 0), begin(4, 8, 50), copy(m, 0)), [-1, 0, -1])

    def test_range_of_j(self):
        for j in [0, 1, 198, 199]:
            self.assertEqual(answered(begin(1, 8, 50), copy(0, j)), [0, -13])
        for j in [-1, 200, 201, 1000000000000000000, -1000000000000000000]:
            self.assertEqual(answered(copy(0, j), begin(1, 8, 50), log(0, 7), deliver(0), copy(0, j)),
                             [-1, 0, 1, 2, -1])

    def test_which_refusal_comes_first(self):
        self.assertEqual(answered(copy(3, 200), copy(3, 199), begin(1, 8, 50), copy(3, 200), copy(3, 199),
                                  copy(0, 199)),
                         [-1, -2, 0, -1, -3, -13])


class Whole(unittest.TestCase):
    def test_nothing_logged(self):
        self.assertEqual(answered(begin(4, 8, 50), *[whole(m) for m in range(4)]), [0, 1, 1, 1, 1])

    def test_before_and_after(self):
        self.assertEqual(answered(begin(2, 8, 50), log(1, 7), whole(1), whole(0), log(1, 8), deliver(0), whole(1),
                                  deliver(0), whole(1), log(1), whole(1), deliver(2), whole(1)),
                         [0, 1, 0, 1, 2, 2, 0, 2, 1, 3, 0, 2, 1])

    def test_what_is_put_aside_does_not_count(self):
        self.assertEqual(answered(begin(1, 8, 50), log(0, 7), log(0, 8), deliver(1), whole(0), deliver(0), whole(0)),
                         [0, 1, 2, 2, 0, 2, 1])

    def test_an_event_without_bytes_counts(self):
        self.assertEqual(answered(begin(1, 8, 50), log(0), whole(0), deliver(0), whole(0)), [0, 1, 0, 2, 1])

    def test_lose(self):
        self.assertEqual(answered(begin(1, 8, 50), lose(0), whole(0), log(0, 7), deliver(0), whole(0), lose(0),
                                  whole(0)),
                         [0, 0, 1, 1, 2, 1, 1, 0])

    def test_without_power(self):
        self.assertEqual(answered(begin(1, 8, 50), log(0, 7), cut(0), whole(0), deliver(0), whole(0)),
                         [0, 1, 0, 0, 2, 1])

    def test_event_by_event(self):
        # no call brings this about: the copy is as long as the log, and is another
        line = Line(begin(1, 8, 50), log(0, 7), log(0, 8))
        line.ward.desks[0].copied = [[7], [9]]
        self.assertEqual(line.do(whole(0)), 0)
        line.ward.desks[0].copied = [[7], [8]]
        self.assertEqual(line.do(whole(0)), 1)

    def test_refusals(self):
        for m in [-1, 4, 1000000000000000000, -1000000000000000000]:
            self.assertEqual(answered(whole(m), begin(4, 8, 50), whole(m)), [-1, 0, -1])
        self.assertEqual(answered(whole(0), whole(3), begin(3, 8, 50), whole(3)), [-2, -2, 0, -3])


if __name__ == "__main__":
    unittest.main()
