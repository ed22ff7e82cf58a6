import unittest

from lines import (GREATEST, Line, answered, back, begin, blink, calm, copy, cut, deliver, double, drop, event, frame,
                   full_net, log, lose, net, packet, sender, spoil, state, station, tick, totals, whole)

# Each call that needs something open, with arguments in their ranges, for the machine or the packet 0.
FITTING = [log(0, 1), tick(1), deliver(0), drop(0), double(0), spoil(0, 0, 1), cut(0), back(0), lose(0), blink(),
           calm(1), net(), packet(0), sender(0), station(0), copy(0, 0), event(0, 0), whole(0), totals()]

# The calls with a machine, and those with a packet.
OF_A_MACHINE = [log, cut, back, lose, sender, station, lambda m: copy(m, 0), lambda m: event(m, 0), whole]
OF_A_PACKET = [deliver, drop, double, lambda i: spoil(i, 0, 1), packet]

# Each call with an argument out of its range.
OUT_OF_RANGE = (
    [begin(k, 1, 1) for k in [0, 5, -1, GREATEST, -GREATEST]]
    + [begin(1, w, 1) for w in [0, 9, -1, GREATEST, -GREATEST]]
    + [begin(1, 1, r) for r in [0, 51, -1, GREATEST, -GREATEST]]
    + [call(m) for call in OF_A_MACHINE for m in [-1, 4, GREATEST, -GREATEST]]
    + [log(0, octet) for octet in [-1, 256, GREATEST, -GREATEST]]
    + [log(0, *[1] * length) for length in [17, 18, 50]]
    + [call(n) for call in [tick, calm] for n in [0, 101, -1, GREATEST, -GREATEST]]
    + [call(i) for call in OF_A_PACKET for i in [-1, 200, GREATEST, -GREATEST]]
    + [spoil(0, k, 1) for k in [-1, 32, GREATEST, -GREATEST]]
    + [spoil(0, 0, x) for x in [0, -1, 256, GREATEST, -GREATEST]]
    + [call(0, j) for call in [copy, event] for j in [-1, 200, GREATEST, -GREATEST]]
    + [frame(octet) for octet in [-1, 256, GREATEST, -GREATEST]]
    + [frame(*[1] * length) for length in [41, 42, 50]]
)


def busy_line():
    """A line of two machines, with all sorts of things under way."""
    line = Line(begin(2, 3, 4), *[log(m, m, j) for m in range(2) for j in range(4)], deliver(0), deliver(1),
                tick(3), spoil(2, 1, 7), double(2), cut(1))
    line.do(lose(1), tick(1))
    return line


class OutOfRange(unittest.TestCase):
    def test_before_open(self):
        for call in OUT_OF_RANGE:
            self.assertEqual(answered(call), [-1], call)

    def test_after_open(self):
        for call in OUT_OF_RANGE:
            self.assertEqual(answered(begin(1, 8, 50), log(0, 1), call), [0, 1, -1], call)

    def test_nothing_is_changed(self):
        line = busy_line()
        before = state(line.ward)
        for call in OUT_OF_RANGE:
            self.assertEqual(line.do(call), -1, call)
            self.assertEqual(state(line.ward), before, call)

    def test_before_no_machine_and_no_packet(self):
        self.assertEqual(answered(begin(1, 8, 50), log(3, 256), log(3, *[1] * 17), log(3, 1)), [0, -1, -1, -3])
        self.assertEqual(answered(begin(1, 8, 50), spoil(9, 32, 1), spoil(9, 0, 256), spoil(9, 0, 1)),
                         [0, -1, -1, -4])
        self.assertEqual(answered(begin(1, 8, 50), copy(3, 200), event(3, -1), copy(3, 0), event(3, 0)),
                         [0, -1, -1, -3, -3])

    def test_before_the_others(self):
        self.assertEqual(answered(begin(1, 8, 50), cut(0), log(0, 256), log(0, 1)), [0, 0, -1, -6])
        self.assertEqual(answered(begin(1, 8, 50), log(0, 1), spoil(0, 0, 1), spoil(0, 32, 1)), [0, 1, 0, -1])


class NothingOpen(unittest.TestCase):
    def test_each_call(self):
        for call in FITTING:
            self.assertEqual(answered(call), [-2], call)

    def test_before_no_machine_and_no_packet(self):
        for call in [call(3) for call in OF_A_MACHINE] + [call(199) for call in OF_A_PACKET]:
            self.assertEqual(answered(call), [-2], call)
        self.assertEqual(answered(spoil(199, 31, 255), copy(3, 199), event(3, 199), calm(100)), [-2] * 4)

    def test_nothing_is_changed(self):
        line = Line()
        before = state(line.ward)
        for call in FITTING:
            self.assertEqual(line.do(call), -2)
            self.assertEqual(state(line.ward), before)
        self.assertEqual(answered(*FITTING, begin(1, 8, 1), log(0, 9), deliver(0), deliver(0), lose(0)),
                         [-2] * 19 + [0, 1, 2, 2, 1])


class NoMachineNoPacket(unittest.TestCase):
    def test_no_machine(self):
        for k in [1, 2, 3]:
            for call in [call(m) for call in OF_A_MACHINE for m in [k, 3]]:
                self.assertEqual(answered(begin(k, 8, 50), call), [0, -3], call)

    def test_no_machine_comes_before_the_others(self):
        self.assertEqual(answered(begin(1, 8, 50), copy(1, 0), copy(1, 199), event(1, 0), event(1, 199)),
                         [0, -3, -3, -3, -3])

    def test_no_packet(self):
        for i in [0, 1, 198, 199]:
            for call in [call(i) for call in OF_A_PACKET] + [spoil(i, 31, 255)]:
                self.assertEqual(answered(begin(4, 8, 50), call), [0, -4], call)

    def test_nothing_is_changed(self):
        line = Line(begin(1, 8, 50), log(0, 1), deliver(0), log(0, 2))
        before = state(line.ward)
        for call in OF_A_MACHINE:
            self.assertEqual(line.do(call(1)), -3)
            self.assertEqual(state(line.ward), before)
        for call in OF_A_PACKET:
            self.assertEqual(line.do(call(2)), -4)
            self.assertEqual(state(line.ward), before)


class TheOthers(unittest.TestCase):
    def unchanged(self, line, call, refusal):
        before = state(line.ward)
        self.assertEqual(line.do(call), refusal)
        self.assertEqual(state(line.ward), before)

    def test_open_already(self):
        self.unchanged(busy_line(), begin(1, 1, 1), -5)
        self.unchanged(busy_line(), begin(4, 8, 50), -5)

    def test_no_power(self):
        self.unchanged(busy_line(), log(1, 1), -6)
        self.unchanged(busy_line(), cut(1), -6)

    def test_a_full_log(self):
        self.unchanged(Line(begin(1, 8, 50), *[log(0, 1)] * 200), log(0, 1), -7)

    def test_a_full_net(self):
        self.unchanged(Line(*full_net()), double(7), -8)

    def test_spoiled_already(self):
        line = Line(begin(1, 8, 50), log(0, 1), spoil(0, 4, 4))
        self.unchanged(line, spoil(0, 4, 4), -9)
        self.unchanged(line, spoil(0, 31, 4), -9)

    def test_too_few_bytes(self):
        self.unchanged(Line(begin(1, 8, 50), log(0, 1)), spoil(0, 10, 4), -10)

    def test_has_power(self):
        self.unchanged(busy_line(), back(0), -11)

    def test_the_last_turn(self):
        line = Line(begin(1, 8, 50), *[lose(0)] * 50, log(0, 1), log(0, 2), log(0, 3), deliver(0), deliver(1))
        self.unchanged(line, lose(0), -12)

    def test_no_such_event(self):
        self.unchanged(busy_line(), event(0, 4), -13)
        self.unchanged(busy_line(), event(1, 199), -13)
        self.unchanged(busy_line(), copy(0, 1), -13)
        self.unchanged(busy_line(), copy(1, 0), -13)


if __name__ == "__main__":
    unittest.main()
