"""The call calm. D0 is data with the place 0, A2 an ack of 2 events, A1.0 one of 0 events in the turn 1."""

import random
import unittest

from lines import (Line, answered, back, begin, blink, calm, cut, deliver, double, drop, full_net, log, lose, net,
                   packet, sender, spoil, state, station, tick, told, totals, whole)

NOTHING = [0]
ONE_ACK = [1, 1, 0, 10]


class OneRound(unittest.TestCase):
    def test_nothing_to_tell(self):
        self.assertEqual(told(begin(1, 8, 50), calm(1), net(), sender(0), totals()),
                         [[0], [0], NOTHING, [1, 0, 0, 0, 0, 1], [0, 0, 0, 0]])

    def test_what_is_on_the_net_arrives_and_what_is_sent_then_waits(self):
        self.assertEqual(
            told(begin(1, 8, 50), log(0, 5), calm(1), net(), sender(0), calm(1), net(), sender(0)),
            [[0], [1],
             [1], ONE_ACK, [1, 1, 0, 0, 1, 1],      # the ack hasn't arrived
             [1], NOTHING, [1, 1, 0, 1, 1, 0]])

    def test_what_the_tick_sends_arrives_in_the_same_round(self):
        # a wait of 3: the third tick sends D0 and D1 again
        self.assertEqual(
            told(begin(1, 2, 3), log(0, 1), log(0, 2), drop(0), drop(0), calm(1), calm(1), sender(0), calm(1), net(),
                 sender(0))[5:],
            [[0], [0], [1, 2, 0, 0, 2, 2], [2], [2, 1, 0, 10, 1, 0, 10], [1, 2, 0, 0, 2, 0]])

    def test_an_ask_of_the_tick_arrives_in_the_same_round(self):
        # the second ask arrives behind the first one's ack
        self.assertEqual(told(begin(1, 8, 1), calm(1), net(), calm(1), net(), totals()),
                         [[0], [0], ONE_ACK, [0], ONE_ACK, [0, 0, 0, 0]])

    def test_in_their_order(self):
        # D0 D1 answer A1 A2; 65 + 1 * 8 = 73, 65 + 2 * 8 = 81
        self.assertEqual(told(begin(1, 8, 50), log(0, 1), log(0, 2), calm(1), packet(0), packet(1), station(0))[3:],
                         [[2], [10, 65, 0, 0, 0, 0, 0, 0, 1, 0, 73], [10, 65, 0, 0, 0, 0, 0, 0, 2, 0, 81],
                          [0, 2, 0]])
        # D1 D0 answer A0 A2
        self.assertEqual(told(begin(1, 8, 50), log(0, 1), log(0, 2), double(0), drop(0), calm(1), packet(0),
                              packet(1), station(0))[5:],
                         [[2], [10, 65, 0, 0, 0, 0, 0, 0, 0, 0, 65], [10, 65, 0, 0, 0, 0, 0, 0, 2, 0, 81],
                          [0, 2, 0]])

    def test_what_was_on_the_net_comes_ahead_of_what_the_tick_sends(self):
        # D1 is left on the net; the tick sends D0 D1: D1 is put aside, both come with D0, D1 comes again
        self.assertEqual(told(begin(1, 8, 1), log(0, 1), log(0, 2), drop(0), calm(1), totals(), packet(0), packet(1),
                              packet(2), net())[4:],
                         [[2], [0, 0, 1, 2], [10, 65, 0, 0, 0, 0, 0, 0, 0, 0, 65],
                          [10, 65, 0, 0, 0, 0, 0, 0, 2, 0, 81], [10, 65, 0, 0, 0, 0, 0, 0, 2, 0, 81],
                          [3, 1, 0, 10, 1, 0, 10, 1, 0, 10]])

    def test_spoiled_packets_are_bad(self):
        self.assertEqual(told(begin(1, 8, 50), log(0, 1), log(0, 2), log(0, 3), spoil(1, 7, 9), calm(1), station(0),
                              totals(), net())[5:],
                         [[1], [0, 1, 1, 2], [0, 1, 0, 1], [2, 1, 0, 10, 1, 0, 10]])
        # a spoiled ack
        self.assertEqual(told(begin(1, 8, 50), log(0, 1), deliver(0), spoil(0, 2, 1), calm(1), sender(0), totals(),
                              net())[4:],
                         [[1], [1, 1, 0, 0, 1, 1], [0, 1, 0, 1], NOTHING])

    def test_events_put_aside(self):
        # D2 and D1 are put aside; D0 A0 A0 are on the net
        self.assertEqual(told(begin(1, 3, 50), log(0, 1), log(0, 2), log(0, 3), deliver(2), deliver(1), station(0),
                              calm(1), station(0), net(), totals(), whole(0))[6:],
                         [[0, 0, 2, 2, 1], [3], [0, 3, 0], ONE_ACK, [0, 0, 0, 3], [1]])
        # what blink has taken doesn't follow
        self.assertEqual(told(begin(1, 3, 50), log(0, 1), log(0, 2), log(0, 3), deliver(2), deliver(1), blink(),
                              calm(1), station(0), totals())[6:],
                         [[2], [1], [0, 1, 0], [0, 0, 0, 1]])


class Rounds(unittest.TestCase):
    def test_round_by_round(self):
        # D0 D1 | A1 A2 | D2 D3 | A3 A4 | D4 | A5
        line = [begin(1, 2, 50), *[log(0, j) for j in range(5)]]
        self.assertEqual(answered(*line, *[calm(1)] * 6)[6:], [2, 2, 4, 4, 5, 5])
        for n, many in [(1, 2), (2, 2), (3, 4), (4, 4), (5, 5), (6, 5), (100, 5)]:
            self.assertEqual(answered(*line, calm(n))[6:], [many])
        self.assertEqual(told(*line, calm(3), sender(0), net(), calm(2), net(), calm(1), sender(0), net())[6:],
                         [[4], [1, 5, 0, 2, 4, 1], [2, 1, 0, 10, 1, 0, 10], [5], ONE_ACK, [5], [1, 5, 0, 5, 5, 0],
                          NOTHING])

    def test_a_wait_of_fifty(self):
        # asks in the rounds 50 and 100
        self.assertEqual(told(begin(1, 8, 50), calm(49), sender(0), net(), calm(1), sender(0), net(), calm(1),
                              sender(0), net())[1:],
                         [[0], [1, 0, 0, 0, 0, 49], NOTHING, [0], [1, 0, 0, 0, 0, 0], ONE_ACK,
                          [0], [1, 0, 0, 0, 0, 1], NOTHING])
        self.assertEqual(told(begin(1, 8, 50), calm(100), sender(0), net()),
                         [[0], [0], [1, 0, 0, 0, 0, 0], ONE_ACK])

    def test_a_wait_of_one_sends_again_and_again(self):
        # round 1: D0 and the tick's D0; round 2: A1 A1 and the tick's D0; round 3: A1 and an ask; then ack and ask
        self.assertEqual(told(begin(1, 8, 1), log(0, 1), calm(1), totals(), net(), calm(1), totals(), net(),
                              sender(0), calm(1), totals(), net(), calm(97), totals(), net())[2:],
                         [[1], [0, 0, 1, 1], [2, 1, 0, 10, 1, 0, 10], [1], [0, 0, 2, 1], ONE_ACK,
                          [1, 1, 0, 1, 1, 0], [1], [0, 0, 2, 1], ONE_ACK, [1], [0, 0, 2, 1], ONE_ACK])

    def test_so_many_rounds_are_one_by_one(self):
        dice = random.Random(3)
        for times in range(20):
            calls = messy_calls(dice, dice.randrange(1, 5))
            for n in [2, 3, 10]:
                once = Line(*calls)
                often = Line(*calls)
                self.assertEqual(once.ask(calm(n)), often.ask(*[calm(1)] * n))
                self.assertEqual(state(once.ward), state(often.ward))

    def test_a_round_is_a_tick_and_the_packets_then(self):
        dice = random.Random(4)
        for times in range(40):
            calls = messy_calls(dice, dice.randrange(1, 5))
            at_once = Line(*calls, calm(1))
            by_hand = Line(*calls, tick(1))
            self.assertLess(len(by_hand.net()), 100)
            by_hand.ask(*[deliver(0)] * len(by_hand.net()))
            self.assertEqual(state(at_once.ward), state(by_hand.ward))


class Machines(unittest.TestCase):
    def test_one_number_for_each(self):
        for k in [1, 2, 3, 4]:
            self.assertEqual(told(begin(k, 8, 50), calm(1)), [[0], [0] * k])
        self.assertEqual(told(begin(4, 8, 50), log(1, 1), log(1, 2), log(3, 3), calm(1))[4:], [[0, 2, 0, 1]])

    def test_without_power(self):
        # round 1: 0D0 1D0 and the tick's 0D0; round 2: 0A1 1A1 0A1 and the tick's 0D0
        self.assertEqual(told(begin(2, 2, 1), log(0, 1), log(1, 2), cut(1), calm(1), net(), totals(), calm(1), net(),
                              totals(), sender(0), sender(1))[4:],
                         [[1, 1], [3, 1, 0, 10, 1, 1, 10, 1, 0, 10], [0, 0, 1, 2],
                          [1, 1], ONE_ACK, [0, 0, 2, 2], [1, 1, 0, 1, 1, 0], [0, 1, 0, 0, 1, 0]])

    def test_without_power_the_copy_stays_as_it_is_until_it_is_back(self):
        line = [begin(1, 1, 50), log(0, 1), log(0, 2), cut(0), calm(100), whole(0), sender(0), net()]
        self.assertEqual(told(*line)[4:], [[1], [0], [0, 2, 0, 0, 1, 0], NOTHING])
        # back asks | A1 | D1 | A2
        self.assertEqual(told(*line, back(0), calm(1), calm(1), whole(0), calm(1), whole(0), sender(0), calm(1),
                              sender(0), net())[9:],
                         [[1], [1], [0], [2], [1], [1, 2, 0, 1, 2, 1], [2], [1, 2, 0, 2, 2, 0], NOTHING])

    def test_all_without_power(self):
        self.assertEqual(told(begin(2, 8, 1), log(0, 1), cut(0), cut(1), calm(100), net(), totals())[4:],
                         [[1, 0], NOTHING, [0, 0, 0, 1]])


class LostCopies(unittest.TestCase):
    def test_the_station_has_lost_a_copy(self):
        line = [begin(1, 2, 3), log(0, 1), log(0, 2), calm(1), calm(1), whole(0), lose(0), whole(0), station(0)]
        self.assertEqual(told(*line)[3:], [[2], [2], [1], [2], [0], [1, 0, 0]])
        # two ticks without a packet | an ask | A1.0 | D0 D1
        self.assertEqual(told(*line, calm(1), calm(1), net(), calm(1), net(), calm(1), sender(0), calm(1), station(0),
                              whole(0))[9:],
                         [[0], [0], NOTHING, [0], ONE_ACK, [0], [1, 2, 1, 0, 2, 0], [2], [1, 2, 0], [1]])

    def test_what_lies_beyond_the_window_then(self):
        # the copy of 2 is lost while D2 D3 are on the net: both are answered A1.0, and the first one begins anew
        self.assertEqual(told(begin(1, 2, 50), *[log(0, j) for j in range(4)], calm(2), net(), lose(0), calm(1),
                              totals(), net(), calm(1), sender(0), net(), calm(1), calm(2), whole(0))[5:],
                         [[2], [2, 0, 0, 10, 0, 0, 10], [2], [0], [0, 0, 0, 2], [2, 1, 0, 10, 1, 0, 10],
                          [0], [1, 4, 1, 0, 2, 0], [2, 0, 0, 10, 0, 0, 10], [2], [4], [1]])


class FullNet(unittest.TestCase):
    def test_two_hundred_packets(self):
        self.assertEqual(told(*full_net(), calm(1), totals(), net(), calm(1), totals(), net(), sender(0))[201:],
                         [[1], [0, 0, 199, 1], [200] + [1, 0, 10] * 200,
                          [1], [0, 0, 199, 1], NOTHING, [1, 1, 0, 1, 1, 0]])

    def test_full_ahead_of_the_tick(self):
        self.assertEqual(told(*full_net(k=2, wait=1), calm(1), totals(), net())[201:],
                         [[1, 0], [2, 0, 199, 1], [200] + [1, 0, 10] * 200])

    def test_full_during_the_tick(self):
        # machine 0 sends D0 to the last room; the ask of machine 1 is lost
        self.assertEqual(told(*full_net(k=2, wait=1), drop(0), calm(1), totals(), net())[202:],
                         [[1, 0], [1, 0, 199, 1], [200] + [1, 0, 10] * 200])

    def filled(self, ack_first):
        """A8 to machine 0, which pumps 8 frames then, and 199 frames of data of machine 1."""
        calls = [begin(2, 8, 50)] + [log(0, j) for j in range(16)] + [deliver(0)] * 8 + [drop(0)] * 7
        if ack_first:
            return calls + [log(1, 9)] + [double(1)] * 198
        return calls + [log(1, 9)] + [double(0), drop(0)] + [double(0)] * 198

    def test_full_while_packets_arrive(self):
        calls = self.filled(True)
        self.assertEqual(told(*calls, net(), calm(1), totals(), net(), sender(0))[len(calls):],
                         [[200, 1, 0, 10] + [0, 1, 10] * 199,
                          [8, 1], [7, 0, 198, 9], [200] + [0, 0, 10] * 8 + [1, 1, 10] * 192, [1, 16, 0, 8, 16, 0]])

    def test_full_while_a_machine_pumps(self):
        # 1D0 A8 and 198 of 1D0: 199 acks and D8..D15 are sent in another order
        calls = self.filled(False)
        self.assertEqual(told(*calls, net(), calm(1), totals(), net(), sender(0))[len(calls):],
                         [[200, 0, 1, 10, 1, 0, 10] + [0, 1, 10] * 198,
                          [8, 1], [7, 0, 198, 9], [200, 1, 1, 10] + [0, 0, 10] * 8 + [1, 1, 10] * 191,
                          [1, 16, 0, 8, 16, 0]])


class Whole(unittest.TestCase):
    """In a calm the copies become the whole logs."""

    def test_a_log_of_two_hundred(self):
        # a wait of 1 or 50, a window of 8: 8 events in two rounds, and so 200 in 49
        for wait in [1, 50]:
            self.assertEqual(told(begin(1, 8, wait), *[log(0, j) for j in range(200)], calm(48), whole(0), calm(1),
                                  whole(0), calm(100), whole(0))[201:],
                             [[192], [0], [200], [1], [200], [1]])

    def test_a_window_of_one(self):
        self.assertEqual(told(begin(1, 1, 50), *[log(0, j) for j in range(50)], calm(98), whole(0), calm(1),
                              whole(0))[51:],
                         [[49], [0], [50], [1]])

    def test_after_whatever_there_was(self):
        dice = random.Random(8)
        for times in range(60):
            k = dice.randrange(1, 5)
            line = Line(*messy_calls(dice, k))
            line.do(*[back(m) for m in range(k)])
            self.assertEqual(line.ask(calm(100), calm(100), calm(100)), [len(m.log) for m in line.ward.machines])
            self.assertEqual([line.do(whole(m)) for m in range(k)], [1] * k)

    def test_after_a_net_that_is_full(self):
        line = Line(begin(4, 8, 1), *[log(m, m, j) for m in range(4) for j in range(20)], tick(100), lose(2))
        self.assertEqual(len(line.net()), 200)
        self.assertEqual(line.ask(calm(100)), [20] * 4)
        self.assertEqual([line.do(whole(m)) for m in range(4)], [1] * 4)


class Refused(unittest.TestCase):
    def test_range(self):
        for n in [1, 2, 99, 100]:
            self.assertEqual(answered(begin(1, 1, 1), calm(n)), [0, 0])
        for n in [0, -1, 101, 1000000000000000000, -1000000000000000000]:
            self.assertEqual(answered(calm(n), begin(1, 1, 1), calm(n)), [-1, 0, -1])

    def test_nothing_open(self):
        self.assertEqual(answered(calm(1), calm(100), begin(5, 1, 1), calm(1)), [-2, -2, -1, -2])


def messy_calls(dice, k):
    """Calls that open a line of k machines and leave all sorts of things under way on a net that isn't full."""
    calls = [begin(k, dice.randrange(1, 9), dice.choice([1, 3, 50]))]
    for step in range(60):
        m = dice.randrange(k)
        i = dice.randrange(6)
        calls.append(dice.choice([
            log(m, *[dice.randrange(256)] * dice.randrange(4)), log(m, dice.randrange(256)), deliver(i), deliver(i),
            deliver(0), drop(i), double(i), spoil(i, dice.randrange(9), dice.randrange(1, 256)), cut(m), back(m),
            lose(m), blink(), tick(1),
        ]))
    return calls


if __name__ == "__main__":
    unittest.main()
