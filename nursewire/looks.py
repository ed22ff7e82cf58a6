"""The calls that only look: at the net, the machines, the station, a row of bytes, and the totals.

Each call's function is handed the ward, the call's whole numbers and its row, as in nursewire.calls, and gives
back the answer as a list of its own.
"""

from nursewire.frames import ACK, DATA, check_of, read_frame

NO_EVENT = -13

IS_NO_FRAME = 0
IS_DATA = 1
IS_ACK = 2
IS_ASK = 3


def counted(row):
    """Give a row as answers tell it: how many, then they."""
    return [len(row)] + row


def look_at_net(ward, numbers, row):
    """12 net: of each packet its way, its machine and its length."""
    told = [len(ward.packets)]
    for packet in ward.packets:
        told.extend([packet.goes_to, packet.machine, len(packet.octets)])
    return told


def look_at_packet(ward, numbers, row):
    """13 packet: a packet's bytes."""
    return counted(ward.packets[numbers[0]].octets)


def look_at_sender(ward, numbers, row):
    """14 sender: a machine's power, the length of its log, and what it knows."""
    machine = ward.machines[numbers[0]]
    power = 1 if machine.power else 0
    return [power, len(machine.log), machine.turn, machine.acked, machine.next_place, machine.timer]


def look_at_station(ward, numbers, row):
    """15 station: its turn for a machine, the copy's length, and the places put aside."""
    desk = ward.desks[numbers[0]]
    return [desk.turn, len(desk.copied)] + counted([held[0] for held in desk.aside])


def event_at(events, place):
    """Give the event at this place, or the refusal where there's none."""
    if place >= len(events):
        return [NO_EVENT]
    return counted(events[place])


def look_at_copy(ward, numbers, row):
    """16 copy: an event of the station's copy."""
    return event_at(ward.desks[numbers[0]].copied, numbers[1])


def look_at_event(ward, numbers, row):
    """17 event: an event of the machine's log."""
    return event_at(ward.machines[numbers[0]].log, numbers[1])


def look_whether_whole(ward, numbers, row):
    """18 whole: whether the copy is the log, event by event."""
    if ward.desks[numbers[0]].copied == ward.machines[numbers[0]].log:
        return [1]
    return [0]


def look_at_frame(ward, numbers, row):
    """19 frame: the check of a row, and what it tells if it's a frame."""
    check = check_of(row)
    told = read_frame(row)
    if told is None:
        return [check, IS_NO_FRAME]
    if told[0] == DATA:
        return [check, IS_DATA, told[1], told[2]] + counted(told[3])
    if told[0] == ACK:
        return [check, IS_ACK, told[1], told[2], told[3]]
    return [check, IS_ASK, told[1]]


def look_at_totals(ward, numbers, row):
    """20 totals: lost, bad, again, news."""
    return [ward.lost, ward.bad, ward.again, ward.news]


LOOKS = {
    12: look_at_net,
    13: look_at_packet,
    14: look_at_sender,
    15: look_at_station,
    16: look_at_copy,
    17: look_at_event,
    18: look_whether_whole,
    19: look_at_frame,
    20: look_at_totals,
}


def look(ward, place, numbers, row):
    """Do a call that only looks; give its answer, or its refusal alone."""
    handler = LOOKS[place]
    return handler(ward, numbers, row)
