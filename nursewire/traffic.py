"""What's done: how frames are sent, how packets arrive, how time passes, and what a calm is."""

from nursewire.frames import ACK, ASK, DATA, make_frame, read_frame
from nursewire.ward import TO_MACHINE, TO_STATION, Packet

NET_LIMIT = 200


def send(ward, goes_to, number, told):
    """Send the frame that tells this between the station and the machine with this number."""
    # The frame is written only where there's room: a full net is often sent to.
    if len(ward.packets) >= NET_LIMIT:
        ward.lost += 1
        return
    ward.packets.append(Packet(goes_to, number, make_frame(told)))


def send_ask(ward, number):
    """The machine asks the station for an ack."""
    send(ward, TO_STATION, number, (ASK, number))


def pump(ward, number):
    """The machine sends what its window lets it send."""
    machine = ward.machines[number]
    limit = min(len(machine.log), machine.acked + ward.window)
    sent = 0
    while machine.next_place < limit and sent < ward.window:
        place = machine.next_place
        send(ward, TO_STATION, number, (DATA, number, place, machine.log[place]))
        machine.next_place += 1
        sent += 1


def log_event(ward, number, event):
    """Put an event at the end of the machine's log."""
    ward.machines[number].log.append(event)
    pump(ward, number)


def station_acks(ward, number):
    """The station tells the machine its turn and how many events it has."""
    desk = ward.desks[number]
    send(ward, TO_MACHINE, number, (ACK, number, desk.turn, len(desk.copied)))


def find_aside(desk, place):
    """Give where in the row of events put aside this place stands, or -1."""
    for k, held in enumerate(desk.aside):
        if held[0] == place:
            return k
    return -1


def take_in(ward, desk, event):
    """Put an event at the copy's end, and those put aside that follow it."""
    desk.copied.append(event)
    followed = 0
    k = find_aside(desk, len(desk.copied))
    while k >= 0 and followed < ward.window:
        held = desk.aside.pop(k)
        desk.copied.append(held[1])
        followed += 1
        k = find_aside(desk, len(desk.copied))
    ward.news += 1 + followed


def data_at_station(ward, number, place, event):
    """The station takes an event, and acks whatever came of it; give the outcome."""
    desk = ward.desks[number]
    had = len(desk.copied)
    outcome = 1
    if place < had or find_aside(desk, place) >= 0:
        ward.again += 1
    elif place == had:
        take_in(ward, desk, event)
        outcome = 2
    elif place < had + ward.window:
        desk.aside.append((place, event))
        outcome = 2
    station_acks(ward, number)
    return outcome


def ack_at_machine(ward, number, turn, many):
    """The machine learns what the station has; give the outcome."""
    machine = ward.machines[number]
    if many > len(machine.log):
        return 1
    if turn > machine.turn:
        machine.turn = turn
        machine.next_place = many
    elif turn == machine.turn and many > machine.acked:
        machine.next_place = max(many, machine.next_place)
    else:
        return 1
    machine.acked = many
    machine.timer = 0
    pump(ward, number)
    return 2


def arrive_at_station(ward, told):
    """Give the outcome of a frame at the station, or -1 where it isn't for it."""
    number = told[1]
    if number >= len(ward.machines):
        return -1
    if told[0] == DATA:
        return data_at_station(ward, number, told[2], told[3])
    if told[0] == ASK:
        station_acks(ward, number)
        return 1
    return -1


def arrive_at_machine(ward, number, told):
    """Give the outcome of a frame at the machine, or -1 where it isn't for it."""
    if told[0] != ACK or told[1] != number:
        return -1
    if not ward.machines[number].power:
        return 0
    return ack_at_machine(ward, number, told[2], told[3])


def arrive(ward, packet):
    """A packet that has been taken off the net arrives; give the outcome."""
    told = read_frame(packet.octets)
    outcome = -1
    if told is not None and packet.goes_to == TO_STATION:
        outcome = arrive_at_station(ward, told)
    elif told is not None:
        outcome = arrive_at_machine(ward, packet.machine, told)
    if outcome < 0:
        ward.bad += 1
        return 0
    return outcome


def tick_machine(ward, number):
    """The machine's timer runs on; when the wait is over it sends again, or asks."""
    machine = ward.machines[number]
    if not machine.power:
        return
    if machine.timer + 1 < ward.wait:
        machine.timer += 1
        return
    machine.timer = 0
    if machine.acked < len(machine.log):
        machine.next_place = machine.acked
        pump(ward, number)
    else:
        send_ask(ward, number)


def tick(ward):
    """One tick for each machine, in the order of their numbers."""
    for number in range(len(ward.machines)):
        tick_machine(ward, number)


def calm_round(ward):
    """A tick, and then all that's on the net arrives."""
    tick(ward)
    # The net is empty before the first one arrives: what is sent then has all its room, and waits.
    arriving = ward.packets
    ward.packets = []
    for packet in arriving:
        arrive(ward, packet)
