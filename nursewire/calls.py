"""The calls: what they refuse, and what those that change something do and answer.

Each call's function is handed the ward, the call's whole numbers and its row, and gives back the answer
as a list. What the functions are handed has been looked at by common_refusal.
"""

from nursewire.looks import look
from nursewire.traffic import NET_LIMIT, arrive, calm_round, log_event, send_ask, tick
from nursewire.ward import Desk, Machine, Packet

OUT_OF_RANGE = -1
NOTHING_OPEN = -2
NO_MACHINE = -3
NO_PACKET = -4
OPEN_ALREADY = -5
NO_POWER = -6
LOG_FULL = -7
NET_FULL = -8
SPOILED_ALREADY = -9
NO_BYTE = -10
HAS_POWER = -11
LAST_TURN = -12

LOG_LIMIT = 200
TURN_LIMIT = 50

# Of each call, the ranges of its whole numbers.
RANGES = {
    0: ((1, 4), (1, 8), (1, 50)),
    1: ((0, 3),),
    2: ((1, 100),),
    3: ((0, 199),),
    4: ((0, 199),),
    5: ((0, 199),),
    6: ((0, 199), (0, 31), (1, 255)),
    7: ((0, 3),),
    8: ((0, 3),),
    9: ((0, 3),),
    10: (),
    11: ((1, 100),),
    12: (),
    13: ((0, 199),),
    14: ((0, 3),),
    15: ((0, 3),),
    16: ((0, 3), (0, 199)),
    17: ((0, 3), (0, 199)),
    18: ((0, 3),),
    19: (),
    20: (),
}

# The calls that have a row of bytes, and how long it may be.
ROW_LIMITS = {1: 16, 19: 40}

# The calls that need nothing open.
FREE_CALLS = (0, 19)

# The calls whose first number is a machine, and those whose first number is a packet's place.
MACHINE_CALLS = (1, 7, 8, 9, 14, 15, 16, 17, 18)
PACKET_CALLS = (3, 4, 5, 6, 13)


def open_ward(ward, numbers, row):
    """0 open: there are new machines, a window and a wait."""
    if len(ward.machines) > 0:
        return [OPEN_ALREADY]
    ward.machines = [Machine() for number in range(numbers[0])]
    ward.desks = [Desk() for number in range(numbers[0])]
    ward.window = numbers[1]
    ward.wait = numbers[2]
    return [0]


def add_to_log(ward, numbers, row):
    """1 log: an event is logged."""
    machine = ward.machines[numbers[0]]
    if not machine.power:
        return [NO_POWER]
    if len(machine.log) >= LOG_LIMIT:
        return [LOG_FULL]
    log_event(ward, numbers[0], row)
    return [len(machine.log)]


def tick_often(ward, numbers, row):
    """2 tick: so many ticks."""
    for done in range(numbers[0]):
        tick(ward)
    return [0]


def deliver_packet(ward, numbers, row):
    """3 deliver: a packet is taken off the net and arrives."""
    # It's off the net before it arrives: what is sent then may take its room.
    packet = ward.packets.pop(numbers[0])
    return [arrive(ward, packet)]


def drop_packet(ward, numbers, row):
    """4 drop: a packet is taken off the net."""
    ward.packets.pop(numbers[0])
    return [0]


def double_packet(ward, numbers, row):
    """5 double: a copy of a packet is put at the row's end."""
    if len(ward.packets) >= NET_LIMIT:
        return [NET_FULL]
    packet = ward.packets[numbers[0]]
    # The copy has bytes of its own: spoiling one must not spoil the other.
    twin = Packet(packet.goes_to, packet.machine, list(packet.octets))
    twin.spoiled = packet.spoiled
    ward.packets.append(twin)
    return [len(ward.packets) - 1]


def spoil_packet(ward, numbers, row):
    """6 spoil: one byte of a packet is changed, once."""
    packet = ward.packets[numbers[0]]
    k = numbers[1]
    if packet.spoiled:
        return [SPOILED_ALREADY]
    if len(packet.octets) <= k:
        return [NO_BYTE]
    packet.octets[k] = packet.octets[k] ^ numbers[2]
    packet.spoiled = True
    return [0]


def cut_power(ward, numbers, row):
    """7 cut: a machine loses its power."""
    machine = ward.machines[numbers[0]]
    if not machine.power:
        return [NO_POWER]
    machine.power = False
    return [0]


def bring_back(ward, numbers, row):
    """8 back: a machine has power again, knows nothing but its log, and asks."""
    machine = ward.machines[numbers[0]]
    if machine.power:
        return [HAS_POWER]
    machine.power = True
    machine.turn = 0
    machine.acked = 0
    machine.next_place = 0
    machine.timer = 0
    send_ask(ward, numbers[0])
    return [0]


def lose_copy(ward, numbers, row):
    """9 lose: the station loses a copy and begins a new turn."""
    desk = ward.desks[numbers[0]]
    if desk.turn >= TURN_LIMIT:
        return [LAST_TURN]
    had = len(desk.copied)
    desk.copied = []
    desk.aside = []
    desk.turn += 1
    return [had]


def blink_station(ward, numbers, row):
    """10 blink: the station loses all that's put aside."""
    gone = 0
    for desk in ward.desks:
        gone += len(desk.aside)
        desk.aside = []
    return [gone]


def calm_down(ward, numbers, row):
    """11 calm: so many rounds of calm."""
    for done in range(numbers[0]):
        calm_round(ward)
    return [len(desk.copied) for desk in ward.desks]


# The calls that change something; the others only look.
HANDLERS = {
    0: open_ward,
    1: add_to_log,
    2: tick_often,
    3: deliver_packet,
    4: drop_packet,
    5: double_packet,
    6: spoil_packet,
    7: cut_power,
    8: bring_back,
    9: lose_copy,
    10: blink_station,
    11: calm_down,
}


def count_numbers(place):
    """Tell how many whole numbers the call has ahead of its row."""
    return len(RANGES[place])


def has_row(place):
    """Tell whether the call has a row."""
    return place in ROW_LIMITS


def in_ranges(place, numbers, row):
    """Tell whether the call's numbers and its row are what they may be."""
    for number, limits in zip(numbers, RANGES[place]):
        if number < limits[0] or number > limits[1]:
            return False
    if len(row) > ROW_LIMITS.get(place, 0):
        return False
    return all([0 <= octet <= 255 for octet in row])


def common_refusal(ward, place, numbers, row):
    """Give the first refusal that many calls share, or 0."""
    if not in_ranges(place, numbers, row):
        return OUT_OF_RANGE
    if place not in FREE_CALLS and len(ward.machines) == 0:
        return NOTHING_OPEN
    if place in MACHINE_CALLS and numbers[0] >= len(ward.machines):
        return NO_MACHINE
    if place in PACKET_CALLS and numbers[0] >= len(ward.packets):
        return NO_PACKET
    return 0


def perform(ward, place, numbers, row):
    """Do one call; give its answer, or its refusal alone."""
    refusal = common_refusal(ward, place, numbers, row)
    if refusal < 0:
        return [refusal]
    if place not in HANDLERS:
        return look(ward, place, numbers, row)
    handler = HANDLERS[place]
    return handler(ward, numbers, row)
