import unittest

from lines import Line, answered, begin, blink, cut, deliver, double, drop, full_net, log, lose, tick


class Open(unittest.TestCase):
    def test_least_and_greatest(self):
        for k in [1, 2, 3, 4]:
            self.assertEqual(answered(begin(k, 1, 1)), [0])
        for window in range(1, 9):
            self.assertEqual(answered(begin(1, window, 1)), [0])
        for wait in [1, 2, 49, 50]:
            self.assertEqual(answered(begin(1, 1, wait)), [0])

    def test_out_of_range(self):
        for call in [begin(0, 1, 1), begin(5, 1, 1), begin(-1, 1, 1), begin(1, 0, 1), begin(1, 9, 1),
                     begin(1, -1, 1), begin(1, 1, 0), begin(1, 1, 51), begin(1, 1, -1)]:
            self.assertEqual(answered(call), [-1])

    def test_a_second_open(self):
        self.assertEqual(answered(begin(1, 1, 1), begin(1, 1, 1)), [0, -5])
        self.assertEqual(answered(begin(1, 1, 1), begin(4, 8, 50), lose(1)), [0, -5, -3])

    def test_out_of_range_comes_before_open_already(self):
        self.assertEqual(answered(begin(1, 1, 1), begin(5, 1, 1)), [0, -1])

    def test_a_refused_open_opens_nothing(self):
        self.assertEqual(answered(begin(5, 1, 1), blink(), begin(1, 1, 1), blink()), [-1, -2, 0, 0])

    def test_as_many_machines_as_told(self):
        for k in [1, 2, 3, 4]:
            rest = [log(m, 1) for m in range(4)]
            self.assertEqual(answered(begin(k, 1, 1), *rest), [0] + [1] * k + [-3] * (4 - k))

    def test_all_is_new(self):
        line = Line(begin(4, 8, 50))
        for m in range(4):
            self.assertEqual(line.machine(m), (0, 0, 0, 0))
            self.assertTrue(line.ward.machines[m].power)
            self.assertEqual(line.ward.machines[m].log, [])
            self.assertEqual(line.desk(m), (0, [], []))
        self.assertEqual(line.net(), [])
        self.assertEqual(line.totals(), (0, 0, 0, 0))


class Log(unittest.TestCase):
    def test_how_many_events(self):
        self.assertEqual(answered(begin(2, 1, 1), log(0, 1), log(0, 2), log(1, 3), log(0)), [0, 1, 2, 1, 3])

    def test_events_of_0_to_17_bytes(self):
        for length in range(17):
            self.assertEqual(answered(begin(1, 1, 1), log(0, *[7] * length)), [0, 1])
        for length in [17, 18, 49, 50]:
            self.assertEqual(answered(begin(1, 1, 1), log(0, *[7] * length), log(0, 1)), [0, -1, 1])

    def test_what_is_a_byte(self):
        for octet in [0, 1, 254, 255]:
            self.assertEqual(answered(begin(1, 1, 1), log(0, octet)), [0, 1])
        for octet in [-1, 256, 1000000000000000000, -1000000000000000000]:
            self.assertEqual(answered(begin(1, 1, 1), log(0, octet), log(0, 1)), [0, -1, 1])
            self.assertEqual(answered(begin(1, 1, 1), log(0, *[9] * 15, octet)), [0, -1])
            self.assertEqual(answered(begin(1, 1, 1), log(0, octet, *[9] * 15)), [0, -1])

    def test_two_hundred_events(self):
        given = answered(begin(2, 8, 50), *[log(0, 1)] * 201, log(1, 1), log(0, 1))
        self.assertEqual(given, [0] + list(range(1, 201)) + [-7, 1, -7])

    def test_without_power(self):
        self.assertEqual(answered(begin(2, 8, 50), cut(0), log(0, 1), log(1, 1)), [0, 0, -6, 1])

    def test_without_power_comes_before_a_full_log(self):
        given = answered(begin(1, 8, 50), *[log(0, 1)] * 200, cut(0), log(0, 1))
        self.assertEqual(given[-1], -6)

    def test_the_frame_that_is_sent(self):
        line = Line(begin(4, 8, 50), log(0, 5), log(3), log(3, 1, 2))
        self.assertEqual(line.net(), [
            [68, 0, 0, 0, 0, 0, 1, 5, 0, 115],
            # 68 + 3 * 2 = 74
            [68, 3, 0, 0, 0, 0, 0, 0, 74],
            # 74 + 1 * 6 + 2 * 7 + 1 * 8 + 2 * 9 = 120
            [68, 3, 0, 0, 0, 1, 2, 1, 2, 0, 120],
        ])
        self.assertEqual(line.ways(), [(0, 0, False), (0, 3, False), (0, 3, False)])

    def test_no_more_than_the_window_is_sent(self):
        for window in range(1, 9):
            line = Line(begin(1, window, 50), *[log(0, j) for j in range(10)])
            self.assertEqual([octets[5] for octets in line.net()], list(range(window)))
            self.assertEqual(line.machine(0), (0, 0, window, 0))
            self.assertEqual(len(line.ward.machines[0].log), 10)

    def test_the_window_is_each_machine_s_own(self):
        self.assertEqual(len(Line(begin(2, 1, 50), log(0), log(0), log(1), log(1)).net()), 2)

    def test_a_full_net_loses_what_is_sent(self):
        line = Line(*full_net(k=2))
        self.assertEqual(len(line.net()), 200)
        before = line.net()
        self.assertEqual(line.do(log(0, 2)), 2)
        self.assertEqual(line.do(log(1, 3)), 1)
        self.assertEqual(line.net(), before)
        self.assertEqual(line.totals(), (2, 0, 0, 0))
        # next has grown all the same: with room again, the event at the place 1 isn't sent anew
        self.assertEqual(line.machine(0), (0, 0, 2, 0))
        line.do(drop(0), log(0, 4))
        self.assertEqual(line.net()[-1][5], 2)

    def test_the_last_place_on_the_net_is_taken(self):
        line = Line(*full_net(), drop(199))
        self.assertEqual(line.do(log(0, 2)), 2)
        self.assertEqual(len(line.net()), 200)
        self.assertEqual(line.totals()[0], 0)


class Tick(unittest.TestCase):
    def test_range(self):
        for n in [1, 2, 99, 100]:
            self.assertEqual(answered(begin(1, 1, 1), tick(n)), [0, 0])
        for n in [0, -1, 101, 1000000000000000000]:
            self.assertEqual(answered(begin(1, 1, 1), tick(n)), [0, -1])

    def test_the_timer_runs_to_the_wait(self):
        for wait in [1, 2, 3, 49, 50]:
            line = Line(begin(1, 8, wait))
            for done in range(1, wait):
                line.do(tick(1))
                self.assertEqual(line.machine(0)[3], done)
                self.assertEqual(line.net(), [])
            line.do(tick(1))
            self.assertEqual(line.machine(0)[3], 0)
            self.assertEqual(line.net(), [[72, 0, 0, 72]])

    def test_n_ticks(self):
        for wait in [1, 2, 7, 50]:
            for n in [1, 6, 7, 50, 99, 100]:
                line = Line(begin(1, 8, wait), tick(n))
                self.assertEqual(len(line.net()), n // wait)
                self.assertEqual(line.machine(0)[3], n % wait)

    def test_seen_from_outside(self):
        # two ticks send nothing, the third one asks
        self.assertEqual(answered(begin(1, 1, 3), tick(2), deliver(0), tick(1), deliver(0), deliver(0), deliver(0)),
                         [0, 0, -4, 0, 1, 1, -4])

    def test_what_is_not_acked_is_sent_again(self):
        line = Line(begin(1, 2, 1), log(0, 1), log(0, 2), log(0, 3), drop(0), drop(0))
        self.assertEqual(line.do(tick(1)), 0)
        self.assertEqual([octets[5] for octets in line.net()], [0, 1])
        self.assertEqual(line.machine(0), (0, 0, 2, 0))

    def test_from_the_acked_place_on(self):
        line = Line(begin(1, 2, 1), log(0, 1), log(0, 2), log(0, 3), log(0, 4), drop(1), deliver(0), deliver(0))
        self.assertEqual(line.machine(0), (0, 1, 3, 0))
        line.do(drop(0), tick(1))
        self.assertEqual([octets[5] for octets in line.net()], [1, 2])

    def test_machines_in_the_order_of_their_numbers(self):
        line = Line(begin(4, 8, 1), log(2, 9), drop(0), tick(1))
        self.assertEqual(line.net(), [
            [72, 0, 0, 72],
            [72, 1, 0, 74],
            # 68 + 2 * 2 + 1 * 7 + 9 * 8 = 151
            [68, 2, 0, 0, 0, 0, 1, 9, 0, 151],
            [72, 3, 0, 78],
        ])
        self.assertEqual(line.ways(), [(0, 0, False), (0, 1, False), (0, 2, False), (0, 3, False)])

    def test_no_power_no_tick(self):
        line = Line(begin(2, 8, 2), tick(1), cut(0), tick(1))
        self.assertEqual(line.net(), [[72, 1, 0, 74]])
        self.assertEqual(line.machine(0), (0, 0, 0, 1))
        self.assertEqual(line.machine(1), (0, 0, 0, 0))

    def test_a_full_net_loses_the_asks_and_the_data(self):
        line = Line(*full_net(k=2, window=8, wait=1))
        line.do(tick(3))
        self.assertEqual(len(line.net()), 200)
        self.assertEqual(line.totals(), (6, 0, 0, 0))

    def test_the_net_fills_up_to_two_hundred(self):
        line = Line(begin(4, 1, 1), tick(50))
        self.assertEqual(len(line.net()), 200)
        self.assertEqual(line.totals()[0], 0)
        line.do(tick(100))
        self.assertEqual(len(line.net()), 200)
        self.assertEqual(line.totals()[0], 400)
        self.assertEqual(line.do(double(0)), -8)


if __name__ == "__main__":
    unittest.main()
