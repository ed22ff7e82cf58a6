import unittest

from lines import Line, answered, back, begin, blink, cut, deliver, drop, full_net, log, lose, tick


class Cut(unittest.TestCase):
    def test_no_power_already(self):
        self.assertEqual(answered(begin(2, 8, 50), cut(0), cut(0), cut(1), cut(1)), [0, 0, -6, 0, -6])

    def test_no_machine(self):
        self.assertEqual(answered(begin(3, 8, 50), cut(2), cut(3), cut(4), cut(-1)), [0, 0, -3, -1, -1])

    def test_nothing_but_the_power_changes(self):
        line = Line(begin(1, 8, 50), log(0, 1), log(0, 2), deliver(0), deliver(1), tick(3), cut(0))
        self.assertEqual(line.machine(0), (0, 1, 2, 3))
        self.assertEqual(line.ward.machines[0].log, [[1], [2]])
        self.assertFalse(line.ward.machines[0].power)
        self.assertEqual(len(line.net()), 1)


class Back(unittest.TestCase):
    def test_has_power(self):
        self.assertEqual(answered(begin(2, 8, 50), back(0), cut(0), back(1), back(0), back(0)),
                         [0, -11, 0, -11, 0, -11])

    def test_no_machine(self):
        self.assertEqual(answered(begin(3, 8, 50), back(2), back(3), back(4), back(-1)), [0, -11, -3, -1, -1])

    def test_what_it_knew_is_gone_but_not_the_log(self):
        line = Line(begin(1, 2, 50), lose(0), log(0, 1), log(0, 2), log(0, 3), deliver(0), deliver(1), tick(3))
        self.assertEqual(line.machine(0), (1, 1, 3, 3))
        self.assertEqual(line.do(cut(0)), 0)
        self.assertEqual(line.do(back(0)), 0)
        self.assertEqual(line.machine(0), (0, 0, 0, 0))
        self.assertTrue(line.ward.machines[0].power)
        self.assertEqual(line.ward.machines[0].log, [[1], [2], [3]])

    def test_it_asks_and_does_not_pump(self):
        line = Line(begin(2, 8, 50), log(1, 1), drop(0), cut(1), back(1))
        self.assertEqual(line.net(), [[72, 1, 0, 74]])
        self.assertEqual(line.ways(), [(0, 1, False)])

    def test_a_full_net_loses_the_ask(self):
        line = Line(*full_net(), cut(0))
        self.assertEqual(line.do(back(0)), 0)
        self.assertEqual(len(line.net()), 200)
        self.assertEqual(line.totals(), (1, 0, 0, 0))

    def test_it_logs_and_ticks_again(self):
        self.assertEqual(answered(begin(1, 8, 1), cut(0), log(0, 1), tick(1), deliver(0), back(0), log(0, 1), drop(0),
                                  tick(1), deliver(1), deliver(0)),
                         [0, 0, -6, 0, -4, 0, 1, 0, 0, 2, 1])


class Lose(unittest.TestCase):
    def test_how_many_the_copy_had(self):
        self.assertEqual(answered(begin(2, 8, 50), lose(0), log(0, 1), log(0, 2), log(1, 3), *[deliver(0)] * 3,
                                  lose(0), lose(0), lose(1)),
                         [0, 0, 1, 2, 1, 2, 2, 2, 2, 0, 1])

    def test_what_is_put_aside_is_gone_and_not_told(self):
        line = Line(begin(2, 8, 50), log(0, 1), log(0, 2), log(1, 3), log(1, 4), deliver(1), deliver(2))
        self.assertEqual(line.desk(0), (0, [], [1]))
        self.assertEqual(line.do(lose(0)), 0)
        self.assertEqual(line.desk(0), (1, [], []))
        self.assertEqual(line.desk(1), (0, [], [1]))
        self.assertEqual(line.do(blink()), 1)

    def test_nothing_is_sent(self):
        self.assertEqual(Line(begin(1, 8, 50), lose(0)).net(), [])

    def test_fifty_turns(self):
        self.assertEqual(answered(begin(2, 8, 50), *[lose(0)] * 52, lose(1)), [0] + [0] * 50 + [-12, -12, 0])

    def test_nothing_is_lost_in_the_last_turn(self):
        calls = [begin(1, 8, 50)] + [lose(0)] * 50 + [log(0, 1), log(0, 2), log(0, 3), deliver(0), deliver(1)]
        line = Line(*calls)
        self.assertEqual(line.do(lose(0)), -12)
        self.assertEqual(line.desk(0), (50, [[1]], [2]))
        # 65 + 50 * 4 + 1 * 8 = 273
        self.assertEqual(line.net()[1], [65, 0, 0, 50, 0, 0, 0, 1, 1, 17])

    def test_no_machine(self):
        self.assertEqual(answered(begin(1, 8, 50), *[lose(0)] * 50, lose(1), lose(3), lose(4), lose(-1))[-4:],
                         [-3, -3, -1, -1])

    def test_a_machine_without_power(self):
        self.assertEqual(answered(begin(1, 8, 50), log(0, 1), deliver(0), cut(0), lose(0)), [0, 1, 2, 0, 1])


class Blink(unittest.TestCase):
    def test_nothing_put_aside(self):
        self.assertEqual(answered(begin(1, 8, 50), blink(), log(0, 1), deliver(0), blink(), lose(0)),
                         [0, 0, 1, 2, 0, 1])

    def test_of_all_machines(self):
        line = Line(begin(4, 8, 50), *[log(m, j) for m in [0, 1, 3] for j in range(4)])
        # the places 1 and 3 of machine 0, 2 of machine 1, 1 of machine 3
        line.do(deliver(1), deliver(2), deliver(4), deliver(6))
        self.assertEqual([line.desk(m)[2] for m in range(4)], [[1, 3], [2], [], [1]])
        self.assertEqual(line.do(blink()), 4)
        self.assertEqual([line.desk(m)[2] for m in range(4)], [[], [], [], []])
        self.assertEqual(line.do(blink()), 0)

    def test_the_copies_and_the_turns_stay(self):
        line = Line(begin(1, 8, 50), lose(0), log(0, 1), log(0, 2), log(0, 3), deliver(0), deliver(1))
        before = line.net()
        self.assertEqual(line.desk(0), (1, [[1]], [2]))
        self.assertEqual(line.do(blink()), 1)
        self.assertEqual(line.desk(0), (1, [[1]], []))
        self.assertEqual(line.net(), before)
        self.assertEqual(line.totals(), (0, 0, 0, 1))

    def test_what_is_gone_does_not_follow(self):
        self.assertEqual(answered(begin(1, 8, 50), log(0, 1), log(0, 2), deliver(1), blink(), deliver(0), lose(0)),
                         [0, 1, 2, 2, 1, 2, 1])


if __name__ == "__main__":
    unittest.main()
