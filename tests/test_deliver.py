import unittest

from lines import Line, answered, back, begin, blink, cut, deliver, double, drop, full_net, log, lose, spoil, tick
from nursewire.frames import ACK, ASK, DATA, make_frame
from nursewire.traffic import ack_at_machine, arrive, data_at_station, pump
from nursewire.ward import Packet


def ack(m, turn, many):
    return make_frame((ACK, m, turn, many))


class TakenOff(unittest.TestCase):
    def test_no_such_packet(self):
        self.assertEqual(answered(begin(1, 1, 50), deliver(0)), [0, -4])
        self.assertEqual(answered(begin(1, 1, 50), log(0, 1), deliver(1), deliver(199)), [0, 1, -4, -4])
        self.assertEqual(answered(*full_net(), deliver(199), deliver(200))[-2:], [2, -1])

    def test_range(self):
        for i in [-1, 200, 1000000000000000000, -1000000000000000000]:
            self.assertEqual(answered(begin(1, 1, 50), log(0, 1), deliver(i)), [0, 1, -1])

    def test_those_behind_move_up(self):
        line = Line(begin(1, 8, 50), log(0, 1), log(0, 2), log(0, 3))
        line.do(deliver(1))
        self.assertEqual([octets[5] for octets in line.net()[:2]], [0, 2])
        self.assertEqual(line.net()[2], ack(0, 0, 0))

    def test_the_packet_s_own_room_is_free_when_it_arrives(self):
        line = Line(*full_net())
        self.assertEqual(line.do(deliver(0)), 2)
        self.assertEqual(len(line.net()), 200)
        self.assertEqual(line.net()[199], ack(0, 0, 1))
        self.assertEqual(line.totals(), (0, 0, 0, 1))


class NoFrame(unittest.TestCase):
    def test_spoiled_data(self):
        self.assertEqual(answered(begin(1, 1, 50), log(0, 1), spoil(0, 0, 1), deliver(0), deliver(0)),
                         [0, 1, 0, 0, -4])

    def test_bad_grows_and_no_more(self):
        line = Line(begin(1, 1, 50), log(0, 1), spoil(0, 9, 255))
        self.assertEqual(line.do(deliver(0)), 0)
        self.assertEqual(line.totals(), (0, 1, 0, 0))
        self.assertEqual(line.net(), [])
        self.assertEqual(line.desk(0), (0, [], []))

    def test_a_spoiled_ack(self):
        line = Line(begin(1, 1, 50), log(0, 1), deliver(0), spoil(0, 7, 3))
        self.assertEqual(line.do(deliver(0)), 0)
        self.assertEqual(line.machine(0), (0, 0, 1, 0))
        self.assertEqual(line.totals(), (0, 1, 0, 1))

    def test_a_spoiled_ack_at_a_machine_without_power_is_bad(self):
        line = Line(begin(1, 1, 50), log(0, 1), deliver(0), spoil(0, 7, 3), cut(0))
        self.assertEqual(line.do(deliver(0)), 0)
        self.assertEqual(line.totals(), (0, 1, 0, 1))

    def test_a_spoiled_ask(self):
        self.assertEqual(answered(begin(1, 1, 1), tick(1), spoil(0, 3, 1), deliver(0), deliver(0)),
                         [0, 0, 0, 0, -4])


class AllElse(unittest.TestCase):
    """Frames that no call sends this way, handed to what arrive does."""

    def bad(self, goes_to, machine, told):
        line = Line(begin(2, 4, 50), log(0, 1), log(1, 1), drop(0), drop(0))
        self.assertEqual(arrive(line.ward, Packet(goes_to, machine, make_frame(told))), 0)
        self.assertEqual(line.totals(), (0, 1, 0, 0))
        self.assertEqual(line.net(), [])

    def test_data_and_asks_of_no_machine(self):
        for number in [2, 3, 255]:
            self.bad(0, 0, (DATA, number, 0, [1]))
            self.bad(0, 0, (ASK, number))

    def test_an_ack_at_the_station(self):
        self.bad(0, 0, (ACK, 0, 0, 1))

    def test_data_and_asks_at_a_machine(self):
        self.bad(1, 0, (DATA, 0, 0, [1]))
        self.bad(1, 0, (ASK, 0))

    def test_an_ack_of_another_machine(self):
        self.bad(1, 0, (ACK, 1, 0, 1))
        self.bad(1, 1, (ACK, 0, 0, 1))


class AtMostTheWindow(unittest.TestCase):
    """What no call brings about, but the document names."""

    def test_in_one_pumping(self):
        line = Line(begin(1, 2, 50), *[log(0, j) for j in range(9)], drop(0), drop(0))
        line.ward.machines[0].next_place = 0
        line.ward.machines[0].acked = 5
        pump(line.ward, 0)
        self.assertEqual([octets[5] for octets in line.net()], [0, 1])
        self.assertEqual(line.machine(0), (0, 5, 2, 0))

    def test_of_those_put_aside(self):
        line = Line(begin(1, 2, 50))
        line.ward.desks[0].aside = [(place, [place]) for place in range(1, 6)]
        self.assertEqual(data_at_station(line.ward, 0, 0, [0]), 2)
        self.assertEqual(line.desk(0), (0, [[0], [1], [2]], [3, 4, 5]))
        self.assertEqual(line.totals(), (0, 0, 0, 3))


class Data(unittest.TestCase):
    def test_the_next_place(self):
        line = Line(begin(1, 8, 50), log(0, 1, 2))
        self.assertEqual(line.do(deliver(0)), 2)
        self.assertEqual(line.desk(0), (0, [[1, 2]], []))
        self.assertEqual(line.net(), [ack(0, 0, 1)])
        self.assertEqual(line.ways(), [(1, 0, False)])
        self.assertEqual(line.totals(), (0, 0, 0, 1))

    def test_what_the_copy_has_already(self):
        line = Line(begin(1, 8, 50), log(0, 1), double(0), deliver(0))
        self.assertEqual(line.do(deliver(0)), 1)
        self.assertEqual(line.desk(0), (0, [[1]], []))
        self.assertEqual(line.net(), [ack(0, 0, 1), ack(0, 0, 1)])
        self.assertEqual(line.totals(), (0, 0, 1, 1))

    def test_what_is_put_aside_already(self):
        line = Line(begin(1, 8, 50), log(0, 1), log(0, 2), double(1), deliver(1))
        self.assertEqual(line.do(deliver(1)), 1)
        self.assertEqual(line.desk(0), (0, [], [1]))
        self.assertEqual(line.net()[1:], [ack(0, 0, 0), ack(0, 0, 0)])
        self.assertEqual(line.totals(), (0, 0, 1, 0))

    def test_a_place_within_the_window(self):
        line = Line(begin(1, 3, 50), log(0, 1), log(0, 2), log(0, 3))
        self.assertEqual(line.do(deliver(2)), 2)
        self.assertEqual(line.do(deliver(1)), 2)
        self.assertEqual(line.desk(0), (0, [], [2, 1]))
        self.assertEqual(line.net()[1:], [ack(0, 0, 0), ack(0, 0, 0)])
        self.assertEqual(line.totals(), (0, 0, 0, 0))

    def test_events_put_aside_follow(self):
        line = Line(begin(1, 8, 50), *[log(0, j) for j in range(8)])
        line.do(deliver(3), deliver(1), deliver(3), deliver(1))
        # 3, 1, 5 and 2 have come; 0, 4, 6 and 7 are on the net still
        self.assertEqual(line.desk(0), (0, [], [3, 1, 5, 2]))
        self.assertEqual(line.do(deliver(0)), 2)
        self.assertEqual(line.desk(0), (0, [[0], [1], [2], [3]], [5]))
        self.assertEqual(line.net()[-1], ack(0, 0, 4))
        self.assertEqual(line.totals(), (0, 0, 0, 4))
        self.assertEqual(line.do(deliver(0)), 2)
        self.assertEqual(line.desk(0), (0, [[0], [1], [2], [3], [4], [5]], []))
        self.assertEqual(line.totals(), (0, 0, 0, 6))

    def test_a_whole_window_backwards(self):
        calls = [begin(1, 8, 50)] + [log(0, j) for j in range(8)] + [deliver(j) for j in range(7, -1, -1)]
        self.assertEqual(answered(*calls, blink(), lose(0)), [0] + list(range(1, 9)) + [2] * 8 + [0, 8])

    def test_a_place_beyond_the_window(self):
        for window in [1, 2, 8]:
            # the copy is lost when the machine has sent up to twice the window
            calls = [log(0, j) for j in range(2 * window)]
            calls += [deliver(0)] * window + [deliver(0)] * window
            line = Line(begin(1, window, 50), *calls)
            self.assertEqual([octets[5] for octets in line.net()], list(range(window, 2 * window)))
            self.assertEqual(line.do(lose(0)), window)
            for place in range(window, 2 * window):
                self.assertEqual(line.do(deliver(0)), 1)
            self.assertEqual(line.desk(0), (1, [], []))
            self.assertEqual(line.net(), [ack(0, 1, 0)] * window)
            self.assertEqual(line.totals(), (0, 0, 0, window))

    def test_the_window_s_last_place_and_the_one_behind_it(self):
        # W is 2; the places 1 and 2 are on the net when the copy, which had one event, is lost
        line = Line(begin(1, 2, 50), *[log(0, j) for j in range(3)], deliver(0), deliver(1))
        self.assertEqual([octets[5] for octets in line.net()], [1, 2])
        line.do(lose(0))
        self.assertEqual(line.do(deliver(1)), 1)
        self.assertEqual(line.do(deliver(0)), 2)
        self.assertEqual(line.desk(0), (1, [], [1]))

    def test_each_machine_has_a_copy_of_its_own(self):
        line = Line(begin(2, 8, 50), log(0, 1), log(1, 2), log(1, 3))
        self.assertEqual(line.do(deliver(2)), 2)
        self.assertEqual(line.do(deliver(0)), 2)
        self.assertEqual(line.desk(0), (0, [[1]], []))
        self.assertEqual(line.desk(1), (0, [], [1]))
        self.assertEqual(line.ways()[1:], [(1, 1, False), (1, 0, False)])
        self.assertEqual(line.net()[1:], [ack(1, 0, 0), ack(0, 0, 1)])

    def test_data_of_a_machine_without_power(self):
        self.assertEqual(answered(begin(1, 8, 50), log(0, 1), cut(0), deliver(0), lose(0)), [0, 1, 0, 2, 1])


class Ask(unittest.TestCase):
    def test_the_station_acks(self):
        line = Line(begin(2, 8, 1), tick(1))
        self.assertEqual(line.do(deliver(1)), 1)
        self.assertEqual(line.net(), [[72, 0, 0, 72], ack(1, 0, 0)])
        self.assertEqual(line.ways(), [(0, 0, False), (1, 1, False)])
        self.assertEqual(line.totals(), (0, 0, 0, 0))

    def test_with_the_turn_and_the_number_of_events(self):
        line = Line(begin(1, 8, 1), lose(0), lose(0), log(0, 1), log(0, 2), deliver(0), deliver(0), drop(0), drop(0),
                    cut(0), back(0))
        self.assertEqual(line.do(deliver(0)), 1)
        self.assertEqual(line.net(), [ack(0, 2, 2)])


class Ack(unittest.TestCase):
    def test_more_acked(self):
        line = Line(begin(1, 2, 9), *[log(0, j) for j in range(5)], tick(4), deliver(0))
        self.assertEqual(line.machine(0), (0, 0, 2, 4))
        self.assertEqual(line.do(deliver(1)), 2)
        # the timer is 0, the window has moved on by 1
        self.assertEqual(line.machine(0), (0, 1, 3, 0))
        self.assertEqual([octets[5] for octets in line.net()], [1, 2])

    def test_the_next_place_does_not_go_back(self):
        line = Line(begin(1, 8, 50), *[log(0, j) for j in range(4)], deliver(0), deliver(3))
        self.assertEqual(line.machine(0), (0, 1, 4, 0))
        self.assertEqual([octets[5] for octets in line.net()], [1, 2, 3])

    def test_the_next_place_goes_on_to_what_is_acked(self):
        # cut and back: next is 0, but the station has three already
        line = Line(begin(1, 8, 50), *[log(0, j) for j in range(4)], *[deliver(0)] * 3, drop(0), *[drop(0)] * 3,
                    cut(0), back(0))
        self.assertEqual(line.machine(0), (0, 0, 0, 0))
        line.do(deliver(0))
        self.assertEqual(line.net(), [ack(0, 0, 3)])
        self.assertEqual(line.do(deliver(0)), 2)
        self.assertEqual(line.machine(0), (0, 3, 4, 0))
        self.assertEqual([octets[5] for octets in line.net()], [3])

    def test_as_much_acked_as_known(self):
        line = Line(begin(1, 8, 9), log(0, 1), deliver(0), double(0), deliver(0), tick(3))
        self.assertEqual(line.do(deliver(0)), 1)
        self.assertEqual(line.machine(0), (0, 1, 1, 3))
        self.assertEqual(line.net(), [])

    def test_less_acked_than_known(self):
        line = Line(begin(1, 8, 9), log(0, 1), log(0, 2), deliver(0), deliver(0), deliver(1), tick(1))
        self.assertEqual(line.machine(0), (0, 2, 2, 1))
        self.assertEqual(line.do(deliver(0)), 1)
        self.assertEqual(line.machine(0), (0, 2, 2, 1))

    def test_a_newer_turn(self):
        line = Line(begin(1, 2, 9), *[log(0, j) for j in range(3)], deliver(0), deliver(1), lose(0), tick(3))
        self.assertEqual(line.machine(0), (0, 1, 3, 3))
        line.do(deliver(0))
        self.assertEqual(line.net()[-1], ack(0, 1, 0))
        self.assertEqual(line.do(deliver(1)), 2)
        # what is acked goes back to 0, and the window is sent from there
        self.assertEqual(line.machine(0), (1, 0, 2, 0))
        self.assertEqual([octets[5] for octets in line.net()], [2, 0, 1])

    def test_a_newer_turn_with_more_acked(self):
        line = Line(begin(1, 1, 9), log(0, 1), log(0, 2), lose(0), deliver(0))
        self.assertEqual(line.net(), [ack(0, 1, 1)])
        self.assertEqual(line.do(deliver(0)), 2)
        self.assertEqual(line.machine(0), (1, 1, 2, 0))
        self.assertEqual([octets[5] for octets in line.net()], [1])

    def test_an_older_turn(self):
        line = Line(begin(1, 8, 9), log(0, 1), log(0, 2), deliver(0), deliver(0), lose(0), tick(9))
        # on the net: acks of 1 and 2 in the turn 0, and both events again
        self.assertEqual(line.do(deliver(3)), 2)
        self.assertEqual(line.net()[3], ack(0, 1, 0))
        self.assertEqual(line.do(deliver(3)), 2)
        self.assertEqual(line.machine(0), (1, 0, 2, 0))
        before = line.machine(0)
        self.assertEqual(line.do(deliver(1)), 1)
        self.assertEqual(line.do(deliver(0)), 1)
        self.assertEqual(line.machine(0), before)

    def test_more_than_the_log_has(self):
        # no call brings this about: a copy is never longer than its log
        for turn in [0, 1, 50]:
            line = Line(begin(1, 8, 9), log(0, 1), log(0, 2), drop(0), drop(0), tick(2))
            self.assertEqual(ack_at_machine(line.ward, 0, turn, 3), 1)
            self.assertEqual(line.machine(0), (0, 0, 2, 2))
            self.assertEqual(line.net(), [])
            self.assertEqual(line.totals(), (0, 0, 0, 0))

    def test_as_many_as_the_log_has(self):
        line = Line(begin(1, 8, 9), log(0, 1), log(0, 2), drop(0), drop(0), tick(2))
        self.assertEqual(ack_at_machine(line.ward, 0, 0, 2), 2)
        self.assertEqual(line.machine(0), (0, 2, 2, 0))

    def test_without_power(self):
        line = Line(begin(1, 8, 9), log(0, 1), deliver(0), cut(0), tick(5))
        self.assertEqual(line.do(deliver(0)), 0)
        self.assertEqual(line.machine(0), (0, 0, 1, 0))
        self.assertEqual(line.net(), [])
        self.assertEqual(line.totals(), (0, 0, 0, 1))

    def test_an_ack_on_a_full_net(self):
        # the ack frees one place of the net, and eight frames are sent
        line = Line(begin(1, 8, 50), *[log(0, j) for j in range(16)], *[deliver(0)] * 8, *[drop(0)] * 7,
                    *[double(0)] * 199)
        self.assertEqual(len(line.net()), 200)
        self.assertEqual(line.do(deliver(0)), 2)
        self.assertEqual(line.machine(0), (0, 8, 16, 0))
        self.assertEqual(len(line.net()), 200)
        self.assertEqual(line.net()[199][5], 8)
        self.assertEqual(line.totals(), (7, 0, 0, 8))


if __name__ == "__main__":
    unittest.main()
