"""Longer lines, with the answers worked out by hand; the net is told behind each call.

D0 is data with the place 0; A2 is an ack of 2 events, A1.0 one of 0 events in the turn 1; a star is spoiled.
Where there are two machines, the machine's number stands ahead: 1D0, 1A2.
"""

import random
import unittest

from lines import (Line, back, begin, blink, calm, copy, cut, deliver, double, drop, event, frame, log, lose, net,
                   packet, sender, spoil, state, station, tick, told, totals, whole)


class Stories(unittest.TestCase):
    def follow(self, story):
        """Do all the calls; each answer is told as a list, or as a number that stands alone."""
        given = told(*[call for call, answer in story])
        for number, (call, answer) in enumerate(story):
            self.assertEqual(given[number], answer if isinstance(answer, list) else [answer], (number, call))

    def test_out_of_order_doubled_and_spoiled(self):
        self.follow([
            (begin(1, 2, 3), 0),
            (log(0, 10), 1),        # D0
            (log(0, 11), 2),        # D0 D1
            (log(0, 12), 3),        # D0 D1: the window is full
            (deliver(1), 2),        # D0 A0: put aside
            (deliver(1), 1),        # D0: nothing new
            (double(0), 1),         # D0 D0
            (deliver(0), 2),        # D0 A2: both come to the copy
            (deliver(0), 1),        # A2 A2: again
            (deliver(0), 2),        # A2 D2
            (deliver(0), 1),        # D2
            (spoil(0, 0, 1), 0),    # D2*
            (spoil(0, 0, 1), -9),
            (double(0), 1),         # D2* D2*
            (spoil(1, 5, 9), -9),
            (deliver(1), 0),        # D2*
            (deliver(0), 0),        # none
            (deliver(0), -4),
            (tick(3), 0),           # D2
            (deliver(0), 2),        # A3
            (deliver(0), 2),        # none
            (tick(2), 0),           # none
            (deliver(0), -4),
            (tick(1), 0),           # an ask
            (deliver(0), 1),        # A3
            (deliver(0), 1),        # none
            (lose(0), 3),
            (blink(), 0),
        ])

    def test_power_and_what_the_station_loses(self):
        self.follow([
            (begin(2, 3, 1), 0),
            (log(1), 1),            # 1D0
            (log(1, 255), 2),       # 1D0 1D1
            (log(0, 7), 1),         # 1D0 1D1 0D0
            (cut(1), 0),
            (cut(1), -6),
            (log(1, 5), -6),
            (deliver(1), 2),        # 1D0 0D0 1A0: put aside
            (deliver(2), 0),        # 1D0 0D0: no power
            (tick(1), 0),           # 1D0 0D0 0D0
            (double(2), 3),
            (drop(3), 0),
            (back(1), 0),           # 1D0 0D0 0D0 and 1's ask
            (back(1), -11),
            (deliver(3), 1),        # 1D0 0D0 0D0 1A0
            (blink(), 1),
            (deliver(3), 1),        # 1D0 0D0 0D0
            (deliver(0), 2),        # 0D0 0D0 1A1: 1D1 isn't put aside any more
            (deliver(2), 2),        # 0D0 0D0 1D1
            (lose(1), 1),
            (deliver(2), 2),        # 0D0 0D0 1A1.0: put aside
            (deliver(2), 2),        # 0D0 0D0 1D0 1D1: a newer turn
            (deliver(3), 1),        # 0D0 0D0 1D0 1A1.0: put aside already
            (deliver(2), 2),        # 0D0 0D0 1A1.0 1A1.2: both come
            (deliver(3), 2),        # 0D0 0D0 1A1.0
            (deliver(2), 1),        # 0D0 0D0
            (deliver(0), 2),        # 0D0 0A1
            (deliver(0), 1),        # 0A1 0A1
            (deliver(0), 2),        # 0A1
            (deliver(0), 1),        # none
            (tick(2), 0),           # four asks
            (double(0), 4),
            (lose(0), 1),
            (lose(1), 2),
            (lose(1), 0),
        ])

    def test_a_window_of_one_and_an_old_turn(self):
        self.follow([
            (begin(1, 1, 50), 0),
            (log(0, 1), 1),         # D0
            (log(0, 2), 2),         # D0
            (log(0, 3), 3),         # D0
            (deliver(0), 2),        # A1
            (double(0), 1),         # A1 A1
            (deliver(0), 2),        # A1 D1
            (double(1), 2),         # A1 D1 D1
            (deliver(1), 2),        # A1 D1 A2
            (lose(0), 2),
            (deliver(1), 1),        # A1 A2 A1.0: beyond the window
            (double(1), 3),         # A1 A2 A1.0 A2
            (deliver(2), 2),        # A1 A2 A2 D0: a newer turn
            (deliver(1), 1),        # A1 A2 D0: an old turn
            (deliver(1), 1),        # A1 D0
            (deliver(0), 1),        # D0
            (deliver(0), 2),        # A1.1
            (cut(0), 0),
            (tick(100), 0),         # A1.1
            (double(0), 1),         # A1.1 A1.1
            (deliver(0), 0),        # A1.1
            (back(0), 0),           # A1.1 and an ask
            (deliver(0), 2),        # an ask, D1: a newer turn than 0
            (deliver(0), 1),        # D1 A1.1
            (deliver(1), 1),        # D1
            (drop(0), 0),           # none
            (tick(49), 0),          # none
            (drop(0), -4),
            (tick(1), 0),           # D1
            (deliver(0), 2),        # A1.2
            (deliver(0), 2),        # D2
            (deliver(0), 2),        # A1.3
            (deliver(0), 2),        # none
            (tick(50), 0),          # an ask
            (spoil(0, 4, 1), -10),
            (spoil(0, 3, 1), 0),
            (deliver(0), 0),        # none
            (lose(0), 3),
        ])

    def test_looked_at_all_along(self):
        self.follow([
            (begin(1, 2, 3), 0),
            (log(0, 10), 1),                        # D0
            (log(0), 2),                            # D0 D1
            (log(0, 12, 13), 3),                    # D0 D1: the window is full
            (net(), [2, 0, 0, 10, 0, 0, 9]),
            (packet(0), [10, 68, 0, 0, 0, 0, 0, 1, 10, 0, 155]),
            (packet(1), [9, 68, 0, 0, 0, 0, 1, 0, 0, 74]),
            (sender(0), [1, 3, 0, 0, 2, 0]),
            (deliver(1), 2),                        # D0 A0: put aside
            (station(0), [0, 0, 1, 1]),
            (copy(0, 0), -13),
            (event(0, 1), 0),
            (whole(0), 0),
            (double(0), 2),                         # D0 A0 D0
            (spoil(0, 7, 1), 0),                    # D0* A0 D0
            (packet(0), [10, 68, 0, 0, 0, 0, 0, 1, 11, 0, 155]),
            (packet(2), [10, 68, 0, 0, 0, 0, 0, 1, 10, 0, 155]),
            (net(), [3, 0, 0, 10, 1, 0, 10, 0, 0, 10]),
            (calm(1), 2),                           # A2: D0* is bad, A0 tells nothing, D0 brings both
            (totals(), [0, 1, 0, 2]),
            (station(0), [0, 2, 0]),
            (copy(0, 0), [1, 10]),
            (copy(0, 1), 0),
            (copy(0, 2), -13),
            (sender(0), [1, 3, 0, 0, 2, 1]),
            (packet(0), [10, 65, 0, 0, 0, 0, 0, 0, 2, 0, 81]),
            (tick(2), 0),                           # A2 D0 D1: the wait is over
            (sender(0), [1, 3, 0, 0, 2, 0]),
            (deliver(0), 2),                        # D0 D1 D2
            (sender(0), [1, 3, 0, 2, 3, 0]),
            (calm(1), 3),                           # A2 A2 A3
            (totals(), [0, 1, 2, 3]),
            (whole(0), 1),
            (net(), [3, 1, 0, 10, 1, 0, 10, 1, 0, 10]),
            (cut(0), 0),
            (calm(2), 3),                           # none: the machine has no power
            (sender(0), [0, 3, 0, 2, 3, 1]),
            (totals(), [0, 1, 2, 3]),
            (back(0), 0),                           # an ask
            (sender(0), [1, 3, 0, 0, 0, 0]),
            (packet(0), [4, 72, 0, 0, 72]),
            (frame(72, 0, 0, 72), [360, 3, 0]),
            (lose(0), 3),
            (station(0), [1, 0, 0]),
            (whole(0), 0),
            (calm(1), 0),                           # A1.0
            (packet(0), [10, 65, 0, 0, 1, 0, 0, 0, 0, 0, 69]),
            (calm(1), 0),                           # D0 D1
            (sender(0), [1, 3, 1, 0, 2, 0]),
            (calm(1), 2),                           # A1.1 A1.2
            (calm(1), 2),                           # D2
            (sender(0), [1, 3, 1, 2, 3, 0]),
            (calm(2), 3),                           # none
            (sender(0), [1, 3, 1, 3, 3, 0]),
            (net(), 0),
            (whole(0), 1),
            (totals(), [0, 1, 2, 6]),
        ])


class Whatever(unittest.TestCase):
    """Whatever the net does, the copy is a beginning of the log."""

    def some_call(self, dice):
        i = dice.randrange(dice.choice([3, 12, 200]))
        m = dice.randrange(4)
        return dice.choice([
            log(m, *[dice.randrange(256) for k in range(dice.randrange(17))]), log(m, dice.randrange(256)),
            tick(dice.randrange(1, 8)), tick(1), deliver(i), deliver(i), deliver(0), deliver(0), deliver(0), drop(i),
            double(i), spoil(i, dice.randrange(32), dice.randrange(1, 256)), cut(m), back(m), back(m),
            dice.choice([lose(m), blink(), blink()]), dice.choice([calm(1), calm(2), tick(1)]),
        ])

    def some_look(self, dice):
        i = dice.randrange(dice.choice([3, 12, 200]))
        m = dice.randrange(4)
        return dice.choice([net(), packet(i), sender(m), station(m), copy(m, i), event(m, i), whole(m),
                            frame(*[dice.randrange(256) for k in range(dice.randrange(42))]), totals()])

    def look(self, ward):
        self.assertLessEqual(len(ward.packets), 200)
        for machine, desk in zip(ward.machines, ward.desks):
            self.assertEqual(desk.copied, machine.log[:len(desk.copied)])
            self.assertLess(len(desk.aside), ward.window)
            for place, event in desk.aside:
                self.assertEqual(event, machine.log[place])
                self.assertLess(len(desk.copied), place)
            self.assertLessEqual(machine.acked, machine.next_place)
            self.assertLessEqual(machine.next_place, min(len(machine.log), machine.acked + ward.window))
            self.assertLess(machine.timer, ward.wait)

    def some_line(self, dice, waits):
        return Line(begin(dice.randrange(1, 5), dice.randrange(1, 9), dice.choice(waits)))

    def test_in_many_lines(self):
        dice = random.Random(5)
        for times in range(60):
            line = self.some_line(dice, [1, 2, 5, 50])
            for step in range(300):
                before = state(line.ward)
                if line.ask(self.some_call(dice))[0] < 0:
                    self.assertEqual(state(line.ward), before)
                self.look(line.ward)

    def test_seen_from_outside(self):
        dice = random.Random(6)
        for times in range(20):
            line = self.some_line(dice, [1, 2, 5])
            line.ask(*[self.some_call(dice) for step in range(200)])
            for m in range(len(line.ward.machines)):
                logged = line.ask(sender(m))[1]
                copied = line.ask(station(m))[1]
                self.assertEqual(line.do(whole(m)), 1 if copied == logged else 0)
                self.assertEqual([line.ask(copy(m, j)) for j in range(copied)],
                                 [line.ask(event(m, j)) for j in range(copied)])

    def test_looking_changes_nothing(self):
        dice = random.Random(7)
        for times in range(20):
            line = self.some_line(dice, [1, 2, 5])
            line.ask(*[self.some_call(dice) for step in range(100)])
            before = state(line.ward)
            for step in range(100):
                look = self.some_look(dice)
                first = line.ask(look)
                self.assertEqual(state(line.ward), before, look)
                # what is answered is one's own
                first.append(0)
                first[0] += 1
                self.assertEqual(state(line.ward), before, look)
                self.assertNotEqual(line.ask(look), first)

    def test_in_a_calm_it_becomes_the_whole(self):
        dice = random.Random(8)
        for times in range(30):
            line = self.some_line(dice, [1, 3, 50])
            line.ask(*[self.some_call(dice) for step in range(200)], *[back(m) for m in range(4)])
            line.ask(*[calm(100)] * 6)
            for machine, desk in zip(line.ward.machines, line.ward.desks):
                self.assertEqual(desk.copied, machine.log)

    def test_one_list_or_call_by_call(self):
        dice = random.Random(13)
        for times in range(20):
            calls = [begin(3, 4, 2)] + [dice.choice([self.some_call, self.some_look])(dice) for step in range(399)]
            line = Line()
            self.assertEqual(told(*calls), [line.ask(call) for call in calls])


if __name__ == "__main__":
    unittest.main()
