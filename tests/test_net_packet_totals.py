import unittest

from lines import (Line, answered, back, begin, cut, deliver, double, drop, frame, full_net, log, lose, net, packet,
                   spoil, tick, told, totals)

D0_OF_5 = [68, 0, 0, 0, 0, 0, 1, 5, 0, 115]


class Net(unittest.TestCase):
    def test_no_packets(self):
        self.assertEqual(told(begin(1, 8, 50), net()), [[0], [0]])
        self.assertEqual(told(begin(4, 8, 50), log(3, 1), drop(0), net())[-1], [0])

    def test_data(self):
        # the last event isn't sent: the window is full
        self.assertEqual(told(begin(3, 2, 50), log(2, 7), log(0), log(0, 1, 2, 3), log(0, 9), net())[-1],
                         [3, 0, 2, 10, 0, 0, 9, 0, 0, 12])
        self.assertEqual(told(begin(1, 2, 50), log(0, *[255] * 16), net())[-1], [1, 0, 0, 25])

    def test_acks_and_asks(self):
        self.assertEqual(told(begin(4, 8, 50), log(2, 1, 1), deliver(0), net(), cut(3), back(3), net())[3:],
                         [[1, 1, 2, 10], [0], [0], [2, 1, 2, 10, 0, 3, 4]])
        self.assertEqual(told(begin(3, 8, 1), log(1, 6, 6), tick(1), net())[-1],
                         [4, 0, 1, 11, 0, 0, 4, 0, 1, 11, 0, 2, 4])

    def test_after_drops_doubles_and_deliveries(self):
        self.assertEqual(
            told(begin(2, 8, 50), log(0), log(1, 1), log(0, 1, 2),
                 net(), drop(1), net(), double(1), net(), deliver(1), net(), deliver(0), net(), drop(0), net())[4:],
            [[3, 0, 0, 9, 0, 1, 10, 0, 0, 11],
             [0], [2, 0, 0, 9, 0, 0, 11],
             [2], [3, 0, 0, 9, 0, 0, 11, 0, 0, 11],
             [2], [3, 0, 0, 9, 0, 0, 11, 1, 0, 10],
             [2], [3, 0, 0, 11, 1, 0, 10, 1, 0, 10],
             [0], [2, 1, 0, 10, 1, 0, 10]])

    def test_a_spoiled_packet_goes_where_it_went(self):
        # the byte that tells the machine is spoiled; it was sent by machine 0 all the same
        self.assertEqual(told(begin(2, 8, 50), log(0, 5), spoil(0, 1, 1), net())[-1], [1, 0, 0, 10])
        # the length that the bytes tell is another; there are as many of them as before
        self.assertEqual(told(begin(2, 8, 50), log(0, 5), spoil(0, 6, 8), net())[-1], [1, 0, 0, 10])
        self.assertEqual(told(begin(2, 8, 50), log(1, 5), deliver(0), spoil(0, 0, 9), double(0), net())[-1],
                         [2, 1, 1, 10, 1, 1, 10])

    def test_two_hundred_packets(self):
        self.assertEqual(told(*full_net(), net(), drop(0), net())[-3:],
                         [[200] + [0, 0, 10] * 200, [0], [199] + [0, 0, 10] * 199])
        self.assertEqual(told(begin(4, 1, 1), tick(100), net())[-1],
                         [200] + [0, 0, 4, 0, 1, 4, 0, 2, 4, 0, 3, 4] * 50)


class Packet(unittest.TestCase):
    def test_data(self):
        self.assertEqual(told(begin(1, 8, 50), log(0, 5), packet(0))[-1], [10] + D0_OF_5)
        # 68 + 3 * 2 = 74; 74 + 1 * 6 + 16 * 7 + 1 * (8 + .. + 23) = 440 = 256 + 184
        self.assertEqual(told(begin(4, 8, 50), log(3), log(3, *[1] * 16), packet(0), packet(1))[-2:],
                         [[9, 68, 3, 0, 0, 0, 0, 0, 0, 74],
                          [25, 68, 3, 0, 0, 0, 1, 16] + [1] * 16 + [1, 184]])

    def test_an_ask(self):
        self.assertEqual(told(begin(4, 8, 1), tick(1), packet(0), packet(3))[-2:],
                         [[4, 72, 0, 0, 72], [4, 72, 3, 0, 78]])

    def test_an_ack(self):
        # 65 + 2 * 2 + 1 * 8 = 77; in the turn 1: 65 + 2 * 2 + 1 * 4 = 73
        self.assertEqual(told(begin(3, 8, 50), log(2, 1), double(0), deliver(0), lose(2), log(2, 2), drop(0),
                              deliver(1), packet(0), packet(1))[-2:],
                         [[10, 65, 2, 0, 0, 0, 0, 0, 1, 0, 77], [10, 65, 2, 0, 1, 0, 0, 0, 0, 0, 73]])

    def test_before_and_after_it_was_spoiled(self):
        # 5 xor 255 is 250; 115 xor 16 is 99
        self.assertEqual(
            told(begin(1, 8, 50), log(0, 5), double(0), packet(0), spoil(0, 7, 255), packet(0), packet(1), double(0),
                 packet(2), spoil(1, 9, 16), packet(1), packet(0), spoil(2, 0, 1), packet(2))[3:],
            [[10] + D0_OF_5, [0],
             [10, 68, 0, 0, 0, 0, 0, 1, 250, 0, 115], [10] + D0_OF_5, [2],
             [10, 68, 0, 0, 0, 0, 0, 1, 250, 0, 115], [0],
             [10, 68, 0, 0, 0, 0, 0, 1, 5, 0, 99], [10, 68, 0, 0, 0, 0, 0, 1, 250, 0, 115], [-9],
             [10, 68, 0, 0, 0, 0, 0, 1, 250, 0, 115]])

    def test_those_behind_move_up(self):
        self.assertEqual(told(begin(1, 8, 50), log(0), log(0, 5), packet(1), drop(0), packet(0), packet(1))[3:],
                         [[10, 68, 0, 0, 0, 0, 1, 1, 5, 0, 121], [0], [10, 68, 0, 0, 0, 0, 1, 1, 5, 0, 121], [-4]])

    def test_frame_tells_what_packet_shows(self):
        shown = told(begin(4, 8, 50), log(3, 7, 8), packet(0))[-1]
        self.assertEqual(told(frame(*shown[1:]))[0][1:], [1, 3, 0, 2, 7, 8])
        shown = told(begin(4, 8, 50), log(3, 7, 8), spoil(0, 2, 1), packet(0))[-1]
        self.assertEqual(told(frame(*shown[1:]))[0][1:], [0])

    def test_no_such_packet(self):
        self.assertEqual(answered(begin(1, 8, 50), packet(0), packet(1), packet(199)), [0, -4, -4, -4])
        self.assertEqual(told(*full_net(), packet(199), drop(0), packet(199), packet(198))[-4:],
                         [[10, 68, 0, 0, 0, 0, 0, 1, 1, 0, 83], [0], [-4], [10, 68, 0, 0, 0, 0, 0, 1, 1, 0, 83]])

    def test_range(self):
        for i in [-1, 200, 201, 1000000000000000000]:
            self.assertEqual(answered(packet(i), begin(1, 8, 50), packet(i)), [-1, 0, -1])
            self.assertEqual(told(*full_net(), packet(i))[-1], [-1])


class Totals(unittest.TestCase):
    def test_at_first(self):
        self.assertEqual(told(begin(1, 8, 50), totals()), [[0], [0, 0, 0, 0]])

    def test_lost(self):
        # a log's data, two ticks of an ask and two frames of data each, and an ask; what double refuses is not lost
        self.assertEqual(told(*full_net(k=2, wait=1), totals(), log(0, 2), totals(), tick(2), totals(), cut(1),
                              back(1), totals(), double(0), totals(), drop(0), log(0, 3), totals())[201:],
                         [[0, 0, 0, 0], [2], [1, 0, 0, 0], [0], [7, 0, 0, 0], [0], [0], [8, 0, 0, 0], [-8],
                          [8, 0, 0, 0], [0], [3], [8, 0, 0, 0]])

    def test_a_packet_that_is_dropped_is_not_lost(self):
        self.assertEqual(told(begin(1, 8, 50), log(0, 1), drop(0), totals())[-1], [0, 0, 0, 0])

    def test_bad(self):
        self.assertEqual(told(begin(1, 8, 50), log(0, 1), spoil(0, 3, 3), double(0), totals(), deliver(0), totals(),
                              deliver(0), totals())[4:],
                         [[0, 0, 0, 0], [0], [0, 1, 0, 0], [0], [0, 2, 0, 0]])

    def test_an_ack_without_power_is_not_bad(self):
        self.assertEqual(told(begin(1, 8, 50), log(0, 1), deliver(0), cut(0), deliver(0), totals())[-2:],
                         [[0], [0, 0, 0, 1]])

    def test_again(self):
        # D1 is put aside, comes again, and both come with D0; D0 and D1 come again then
        self.assertEqual(told(begin(1, 8, 50), log(0, 1), log(0, 2), double(1), double(1), double(0), deliver(1),
                              totals(), deliver(1), totals(), deliver(0), totals(), deliver(0), totals(), deliver(0),
                              totals())[6:],
                         [[2], [0, 0, 0, 0], [1], [0, 0, 1, 0], [2], [0, 0, 1, 2], [1], [0, 0, 2, 2], [1],
                          [0, 0, 3, 2]])

    def test_what_lies_beyond_the_window_is_not_again(self):
        self.assertEqual(told(begin(1, 1, 50), log(0, 1), log(0, 2), deliver(0), deliver(0), lose(0), deliver(0),
                              totals())[-3:],
                         [[1], [1], [0, 0, 0, 1]])

    def test_news_goes_on_growing_in_a_new_turn(self):
        self.assertEqual(told(begin(2, 8, 50), log(0, 1), double(0), log(1, 1), deliver(0), lose(0), totals(),
                              deliver(0), totals(), deliver(0), totals())[5:],
                         [[1], [0, 0, 0, 1], [2], [0, 0, 0, 2], [2], [0, 0, 0, 3]])

    def test_all_four(self):
        # 199 of D0 and one that is spoiled; the ack of D0 takes the room that D0 had, log's D1 is lost
        self.assertEqual(told(*full_net(), spoil(0, 0, 1), deliver(1), log(0, 2), deliver(0), deliver(0),
                              totals())[201:],
                         [[0], [2], [2], [0], [1], [1, 1, 1, 1]])

    def test_looking_changes_nothing(self):
        line = Line(*full_net(), spoil(0, 0, 1), deliver(1), log(0, 2))
        first = line.ask(totals())
        self.assertEqual(line.ask(totals()), first)
        first.clear()
        self.assertEqual(line.ask(totals()), [1, 0, 0, 1])


if __name__ == "__main__":
    unittest.main()
