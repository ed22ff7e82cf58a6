import unittest

from lines import (answered, back, begin, blink, cut, deliver, double, drop, full_net, log, lose, sender, station,
                   tick, told)


class Sender(unittest.TestCase):
    def test_at_first(self):
        self.assertEqual(told(begin(4, 8, 50), *[sender(m) for m in range(4)])[1:], [[1, 0, 0, 0, 0, 0]] * 4)

    def test_after_logs(self):
        self.assertEqual(told(begin(2, 2, 50), log(1, 1), sender(1), log(1), sender(1), log(1, 2), sender(1),
                              sender(0))[2::2],
                         [[1, 1, 0, 0, 1, 0], [1, 2, 0, 0, 2, 0], [1, 3, 0, 0, 2, 0]])

    def test_after_ticks(self):
        self.assertEqual(told(begin(1, 2, 4), tick(1), sender(0), tick(2), sender(0), tick(1), sender(0), tick(6),
                              sender(0))[2::2],
                         [[1, 0, 0, 0, 0, 1], [1, 0, 0, 0, 0, 3], [1, 0, 0, 0, 0, 0], [1, 0, 0, 0, 0, 2]])

    def test_after_acks(self):
        # D0 D1; D0 is answered A1, which brings D2; D1 and D2 are answered A2 and A3
        self.assertEqual(told(begin(1, 2, 50), *[log(0, j) for j in range(4)], tick(3), sender(0), deliver(0),
                              sender(0), deliver(1), sender(0), tick(1), deliver(0), deliver(0), deliver(1),
                              sender(0), deliver(0), sender(0))[6:],
                         [[1, 4, 0, 0, 2, 3], [2], [1, 4, 0, 0, 2, 3], [2], [1, 4, 0, 1, 3, 0], [0], [2], [2], [2],
                          [1, 4, 0, 3, 4, 0], [1], [1, 4, 0, 3, 4, 0]])

    def test_sent_again(self):
        # acked is 1 when the wait is over: 1 and 2 are sent anew
        self.assertEqual(told(begin(1, 2, 2), *[log(0, j) for j in range(4)], deliver(0), deliver(1), sender(0),
                              tick(1), sender(0), tick(1), sender(0))[7:],
                         [[1, 4, 0, 1, 3, 0], [0], [1, 4, 0, 1, 3, 1], [0], [1, 4, 0, 1, 3, 0]])

    def test_cut_and_back(self):
        # back, the machine takes the old ack of 1 event, and then the station's answer to its ask
        self.assertEqual(told(begin(2, 8, 50), log(0, 1), log(0, 2), tick(7), cut(0), sender(0), tick(1), sender(0),
                              deliver(0), deliver(1), sender(0), back(0), sender(0), deliver(1), deliver(1),
                              sender(0), sender(1))[5:],
                         [[0, 2, 0, 0, 2, 7], [0], [0, 2, 0, 0, 2, 7], [2], [0], [0, 2, 0, 0, 2, 7], [0],
                          [1, 2, 0, 0, 0, 0], [1], [2], [1, 2, 0, 1, 2, 0], [1, 0, 0, 0, 0, 8]])

    def test_a_newer_turn(self):
        self.assertEqual(told(begin(1, 2, 50), log(0, 1), deliver(0), deliver(0), sender(0), lose(0), lose(0), tick(5),
                              sender(0), log(0, 2), deliver(0), deliver(0), sender(0))[4:],
                         [[1, 1, 0, 1, 1, 0], [1], [0], [0], [1, 1, 0, 1, 1, 5], [2], [2], [2], [1, 2, 2, 0, 2, 0]])

    def test_the_last_turn(self):
        self.assertEqual(told(begin(1, 8, 1), *[lose(0)] * 50, tick(1), deliver(0), deliver(0), sender(0),
                              station(0))[-2:],
                         [[1, 0, 50, 0, 0, 0], [50, 0, 0]])

    def test_next_grows_on_a_full_net(self):
        self.assertEqual(told(*full_net(), log(0, 1), sender(0))[-1], [1, 2, 0, 0, 2, 0])

    def test_a_full_log(self):
        self.assertEqual(told(begin(1, 8, 50), *[log(0)] * 200, sender(0))[-1], [1, 200, 0, 0, 8, 0])

    def test_refusals(self):
        for m in [-1, 4, 1000000000000000000, -1000000000000000000]:
            self.assertEqual(answered(sender(m), begin(4, 8, 50), sender(m)), [-1, 0, -1])
        self.assertEqual(answered(sender(0), sender(3), begin(3, 8, 50), sender(3)), [-2, -2, 0, -3])


class Station(unittest.TestCase):
    def test_at_first(self):
        self.assertEqual(told(begin(4, 8, 50), *[station(m) for m in range(4)])[1:], [[0, 0, 0]] * 4)

    def test_a_copy(self):
        self.assertEqual(told(begin(2, 8, 50), log(1, 1), log(1, 2), station(1), deliver(0), station(1), deliver(0),
                              station(1), station(0))[3:],
                         [[0, 0, 0], [2], [0, 1, 0], [2], [0, 2, 0], [0, 0, 0]])

    def test_the_order_in_which_they_were_put_aside(self):
        # 7, 2, 4 and 1 have come; 0, 3, 5 and 6 are on the net still
        self.assertEqual(told(begin(1, 8, 50), *[log(0, j) for j in range(8)], deliver(7), station(0), deliver(2),
                              station(0), deliver(3), station(0), deliver(1), station(0))[9:],
                         [[2], [0, 0, 1, 7], [2], [0, 0, 2, 7, 2], [2], [0, 0, 3, 7, 2, 4], [2],
                          [0, 0, 4, 7, 2, 4, 1]])

    def test_those_that_have_come_to_the_copy_are_left_out(self):
        calls = [begin(1, 8, 50), *[log(0, j) for j in range(8)], deliver(7), deliver(2), deliver(3), deliver(1)]
        # 0 brings 1 and 2; 3 brings 4; 5 and 6 bring 7
        self.assertEqual(told(*calls, deliver(0), station(0), deliver(0), station(0), deliver(0), station(0),
                              deliver(0), station(0))[13:],
                         [[2], [0, 3, 2, 7, 4], [2], [0, 5, 1, 7], [2], [0, 6, 1, 7], [2], [0, 8, 0]])

    def test_what_comes_again_is_not_put_there_twice(self):
        self.assertEqual(told(begin(1, 8, 50), log(0, 1), log(0, 2), log(0, 3), double(2), deliver(2), deliver(1),
                              station(0), deliver(1), station(0))[7:],
                         [[0, 0, 2, 2, 1], [1], [0, 0, 2, 2, 1]])

    def test_the_window_s_last_place_and_the_one_behind_it(self):
        # the copy of 1 is lost while the places 1 and 2 are on the net; W is 2
        self.assertEqual(told(begin(1, 2, 50), *[log(0, j) for j in range(3)], deliver(0), deliver(1), lose(0),
                              deliver(1), station(0), deliver(0), station(0))[6:],
                         [[1], [1], [1, 0, 0], [2], [1, 0, 1, 1]])

    def test_lose(self):
        self.assertEqual(told(begin(2, 8, 50), log(0, 1), log(0, 2), log(0, 3), log(1, 1), log(1, 2), deliver(0),
                              deliver(1), deliver(2), station(0), station(1), lose(0), station(0), station(1),
                              lose(0), station(0))[9:],
                         [[0, 1, 1, 2], [0, 0, 1, 1], [1], [1, 0, 0], [0, 0, 1, 1], [0], [2, 0, 0]])

    def test_fifty_turns(self):
        self.assertEqual(told(begin(1, 8, 50), *[lose(0)] * 50, station(0), lose(0), station(0))[-3:],
                         [[50, 0, 0], [-12], [50, 0, 0]])

    def test_blink(self):
        self.assertEqual(told(begin(1, 8, 50), log(0, 1), log(0, 2), log(0, 3), deliver(0), deliver(1), station(0),
                              blink(), station(0))[6:],
                         [[0, 1, 1, 2], [1], [0, 1, 0]])

    def test_without_power(self):
        self.assertEqual(told(begin(1, 8, 50), log(0, 1), cut(0), deliver(0), station(0), back(0), drop(0),
                              station(0))[4::3],
                         [[0, 1, 0], [0, 1, 0]])

    def test_refusals(self):
        for m in [-1, 4, 1000000000000000000, -1000000000000000000]:
            self.assertEqual(answered(station(m), begin(4, 8, 50), station(m)), [-1, 0, -1])
        self.assertEqual(answered(station(0), station(3), begin(3, 8, 50), station(3)), [-2, -2, 0, -3])


if __name__ == "__main__":
    unittest.main()
