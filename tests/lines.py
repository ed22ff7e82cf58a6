"""What the tests share: calls written by their names, and a line that can be looked into between its calls."""

from nursewire.calls import count_numbers, has_row, perform
from nursewire.ward import Ward
from nursewire.wire import answers

GREATEST = 1000000000000000000


def begin(k, window, wait):
    return [0, k, window, wait]


def log(m, *event):
    return [1, m, len(event), *event]


def tick(n):
    return [2, n]


def deliver(i):
    return [3, i]


def drop(i):
    return [4, i]


def double(i):
    return [5, i]


def spoil(i, k, x):
    return [6, i, k, x]


def cut(m):
    return [7, m]


def back(m):
    return [8, m]


def lose(m):
    return [9, m]


def blink():
    return [10]


def calm(n):
    return [11, n]


def net():
    return [12]


def packet(i):
    return [13, i]


def sender(m):
    return [14, m]


def station(m):
    return [15, m]


def copy(m, j):
    return [16, m, j]


def event(m, j):
    return [17, m, j]


def whole(m):
    return [18, m]


def frame(*octets):
    return [19, len(octets), *octets]


def totals():
    return [20]


def joined(calls):
    """One flat list of all the calls, as the interface takes it."""
    return [number for call in calls for number in call]


def told(*calls):
    """What the interface answers to the calls, a list for each of them."""
    given = answers(joined(calls))
    parts = []
    at = 0
    while at < len(given):
        behind = at + 1 + given[at]
        parts.append(given[at + 1:behind])
        at = behind
    if at != len(given) or len(parts) != len(calls) or [] in parts:
        raise AssertionError("not an answer for each call: " + repr(given))
    return parts


def answered(*calls):
    """What the interface answers to the calls, one number for each of them."""
    parts = told(*calls)
    if [len(part) for part in parts] != [1] * len(calls):
        raise AssertionError("not one number for each call: " + repr(parts))
    return [part[0] for part in parts]


def state(ward):
    """All that there is, as plain values, to be compared."""
    return {
        "machines": [(list(map(list, m.log)), m.power, m.turn, m.acked, m.next_place, m.timer)
                     for m in ward.machines],
        "desks": [(d.turn, list(map(list, d.copied)), [(place, list(event)) for place, event in d.aside])
                  for d in ward.desks],
        "net": [(p.goes_to, p.machine, list(p.octets), p.spoiled) for p in ward.packets],
        "rest": (ward.window, ward.wait, ward.lost, ward.bad, ward.again, ward.news),
    }


class Line:
    """A line whose calls are done one by one."""

    def __init__(self, *calls):
        self.ward = Ward()
        self.ask(*calls)

    def ask(self, *calls):
        """Do the calls; give the last one's answer, a list."""
        answer = [None]
        for call in calls:
            behind = 1 + count_numbers(call[0])
            row = call[behind + 1:] if has_row(call[0]) else []
            answer = perform(self.ward, call[0], call[1:behind], row)
        return answer

    def do(self, *calls):
        """Do the calls; give the last one's answer, which is one number."""
        answer = self.ask(*calls)
        if len(answer) != 1:
            raise AssertionError("not one number: " + repr(answer))
        return answer[0]

    def net(self):
        """The bytes of each packet, in order."""
        return [list(packet.octets) for packet in self.ward.packets]

    def ways(self):
        """Of each packet: 0 to the station, 1 to a machine; which machine; spoiled or not."""
        return [(packet.goes_to, packet.machine, packet.spoiled) for packet in self.ward.packets]

    def machine(self, m):
        """turn, acked, next, timer."""
        one = self.ward.machines[m]
        return (one.turn, one.acked, one.next_place, one.timer)

    def desk(self, m):
        """The turn, the copy, and the places put aside."""
        one = self.ward.desks[m]
        return (one.turn, one.copied, [place for place, event in one.aside])

    def totals(self):
        """lost, bad, again, news."""
        return (self.ward.lost, self.ward.bad, self.ward.again, self.ward.news)


def full_net(k=1, window=8, wait=50):
    """Calls that open a line and fill its net: 200 packets, all data of machine 0 at the place 0."""
    return [begin(k, window, wait), log(0, 1)] + [double(0)] * 199
