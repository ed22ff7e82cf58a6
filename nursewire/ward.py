"""What there is: the machines, the station's desk for each of them, and the packets on the net."""

TO_STATION = 0
TO_MACHINE = 1


class Packet:
    """A row of bytes on its way between the station and one machine."""

    def __init__(self, goes_to, machine, octets):
        self.goes_to = goes_to
        self.machine = machine
        self.octets = octets
        self.spoiled = False


class Machine:
    """A machine's log, its power, and what it knows of the station."""

    def __init__(self):
        self.log = []
        self.power = True
        self.turn = 0
        self.acked = 0
        self.next_place = 0
        self.timer = 0


class Desk:
    """What the station has of one machine; aside holds tuples (place, event)."""

    def __init__(self):
        self.turn = 0
        self.copied = []
        self.aside = []


class Ward:
    """All of it; nothing is open as long as there are no machines."""

    def __init__(self):
        self.machines = []
        self.desks = []
        self.window = 0
        self.wait = 0
        self.packets = []
        self.lost = 0
        self.bad = 0
        self.again = 0
        self.news = 0
