import unittest

from lines import Line, answered, begin, deliver, double, drop, full_net, log, spoil, tick


class Drop(unittest.TestCase):
    def test_the_packet_is_gone(self):
        self.assertEqual(answered(begin(1, 8, 50), log(0, 1), drop(0), drop(0)), [0, 1, 0, -4])

    def test_those_behind_move_up(self):
        line = Line(begin(1, 8, 50), *[log(0, j) for j in range(4)])
        self.assertEqual(line.do(drop(1)), 0)
        self.assertEqual([octets[5] for octets in line.net()], [0, 2, 3])
        self.assertEqual(line.do(drop(2)), 0)
        self.assertEqual([octets[5] for octets in line.net()], [0, 2])

    def test_it_does_not_arrive_and_is_not_counted(self):
        line = Line(begin(1, 8, 50), log(0, 1), drop(0))
        self.assertEqual(line.desk(0), (0, [], []))
        self.assertEqual(line.totals(), (0, 0, 0, 0))

    def test_no_such_packet(self):
        self.assertEqual(answered(begin(1, 8, 50), log(0, 1), drop(1), drop(199)), [0, 1, -4, -4])

    def test_range(self):
        for i in [-1, 200, 1000000000000000000]:
            self.assertEqual(answered(begin(1, 8, 50), log(0, 1), drop(i)), [0, 1, -1])

    def test_the_last_of_a_full_net(self):
        self.assertEqual(answered(*full_net(), drop(199), drop(199), drop(198))[-3:], [0, -4, 0])


class Double(unittest.TestCase):
    def test_the_copy_s_place(self):
        self.assertEqual(answered(begin(1, 8, 50), log(0, 1), log(0, 2), double(0), double(1), double(2)),
                         [0, 1, 2, 2, 3, 4])

    def test_the_copy_is_the_same(self):
        line = Line(begin(2, 8, 50), log(0, 1), log(1, 2, 3), deliver(0))
        self.assertEqual(line.do(double(0)), 2)
        self.assertEqual(line.do(double(1)), 3)
        self.assertEqual(line.net()[2:], line.net()[:2])
        self.assertEqual(line.ways(), [(0, 1, False), (1, 0, False)] * 2)

    def test_both_arrive(self):
        self.assertEqual(answered(begin(1, 8, 50), log(0, 1), double(0), deliver(1), deliver(0)), [0, 1, 1, 2, 1])

    def test_a_full_net(self):
        given = answered(*full_net(), double(0), double(199), drop(5), double(198), double(0))
        self.assertEqual(given[1:201], [1] + list(range(1, 200)))
        self.assertEqual(given[201:], [-8, -8, 0, 199, -8])

    def test_a_refused_double_is_not_counted_as_lost(self):
        line = Line(*full_net(), double(0))
        self.assertEqual(line.totals(), (0, 0, 0, 0))
        self.assertEqual(len(line.net()), 200)

    def test_no_such_packet(self):
        self.assertEqual(answered(begin(1, 8, 50), double(0), log(0, 1), double(1)), [0, -4, 1, -4])

    def test_range(self):
        for i in [-1, 200, 1000000000000000000]:
            self.assertEqual(answered(begin(1, 8, 50), log(0, 1), double(i)), [0, 1, -1])
        self.assertEqual(answered(*full_net(), double(200))[-1], -1)

    def test_the_copy_of_a_spoiled_packet_is_spoiled(self):
        line = Line(begin(1, 8, 50), log(0, 1), spoil(0, 3, 8), double(0))
        self.assertEqual(line.ways(), [(0, 0, True), (0, 0, True)])
        self.assertEqual(line.net()[0], line.net()[1])
        self.assertEqual(line.do(spoil(1, 3, 8)), -9)
        self.assertEqual(line.do(deliver(1)), 0)

    def test_a_packet_and_its_copy_are_spoiled_apart(self):
        self.assertEqual(answered(begin(1, 8, 50), log(0, 1), double(0), spoil(0, 0, 1), deliver(1), deliver(0)),
                         [0, 1, 1, 0, 2, 0])
        self.assertEqual(answered(begin(1, 8, 50), log(0, 1), double(0), spoil(1, 0, 1), spoil(0, 0, 2)),
                         [0, 1, 1, 0, 0])


class Spoil(unittest.TestCase):
    def test_bit_by_bit(self):
        line = Line(begin(1, 8, 50), log(0, 12))
        self.assertEqual(line.do(spoil(0, 7, 10)), 0)
        # 1100 xor 1010 is 0110
        self.assertEqual(line.net()[0][7], 6)
        # 68 + 7 + 12 * 8 = 171: the check is still that of the event as it was
        self.assertEqual(line.net()[0], [68, 0, 0, 0, 0, 0, 1, 6, 0, 171])
        self.assertEqual(line.ways(), [(0, 0, True)])

    def test_least_and_greatest_x(self):
        for x in [1, 2, 254, 255]:
            line = Line(begin(1, 8, 50), log(0, 12))
            self.assertEqual(line.do(spoil(0, 0, x)), 0)
            self.assertEqual(line.net()[0][0], 68 ^ x)
        for x in [0, -1, 256]:
            self.assertEqual(answered(begin(1, 8, 50), log(0, 12), spoil(0, 0, x)), [0, 1, -1])

    def test_range_of_k(self):
        for k in [-1, 32, 1000000000000000000]:
            self.assertEqual(answered(begin(1, 8, 50), log(0, 12), spoil(0, k, 1)), [0, 1, -1])
        for k in [30, 31]:
            self.assertEqual(answered(begin(1, 8, 50), log(0, 12), spoil(0, k, 1)), [0, 1, -10])

    def test_the_last_byte_and_behind_it(self):
        # a frame of data has 9 bytes more than its event
        for length in range(17):
            calls = [begin(1, 8, 50), log(0, *[7] * length)]
            self.assertEqual(answered(*calls, spoil(0, 9 + length, 1), spoil(0, 8 + length, 1)), [0, 1, -10, 0])

    def test_the_last_byte_of_an_ask_and_of_an_ack(self):
        self.assertEqual(answered(begin(1, 8, 1), tick(1), spoil(0, 4, 1), spoil(0, 3, 1)), [0, 0, -10, 0])
        self.assertEqual(answered(begin(1, 8, 1), tick(1), deliver(0), spoil(0, 10, 1), spoil(0, 9, 1)),
                         [0, 0, 1, -10, 0])

    def test_spoiled_already(self):
        self.assertEqual(answered(begin(1, 8, 50), log(0, 1), spoil(0, 0, 1), spoil(0, 0, 1), deliver(0)),
                         [0, 1, 0, -9, 0])

    def test_spoiled_already_comes_before_too_few_bytes(self):
        self.assertEqual(answered(begin(1, 8, 50), log(0, 1), spoil(0, 0, 1), spoil(0, 31, 1)), [0, 1, 0, -9])

    def test_too_few_bytes_does_not_spoil(self):
        self.assertEqual(answered(begin(1, 8, 50), log(0, 1), spoil(0, 10, 1), deliver(0)), [0, 1, -10, 2])

    def test_no_such_packet(self):
        self.assertEqual(answered(begin(1, 8, 50), spoil(0, 0, 1), log(0, 1), spoil(1, 0, 1)), [0, -4, 1, -4])
        self.assertEqual(answered(begin(1, 8, 50), spoil(0, 32, 1), spoil(0, 0, 0)), [0, -1, -1])

    def test_range_of_i(self):
        for i in [-1, 200]:
            self.assertEqual(answered(begin(1, 8, 50), log(0, 1), spoil(i, 0, 1)), [0, 1, -1])
        self.assertEqual(answered(*full_net(), spoil(199, 0, 1), deliver(199))[-2:], [0, 0])

    def test_the_log_is_not_spoiled(self):
        line = Line(begin(1, 8, 1), log(0, 12), spoil(0, 7, 10), deliver(0), tick(1))
        self.assertEqual(line.ward.machines[0].log, [[12]])
        self.assertEqual(line.do(deliver(0)), 2)
        self.assertEqual(line.desk(0), (0, [[12]], []))


if __name__ == "__main__":
    unittest.main()
