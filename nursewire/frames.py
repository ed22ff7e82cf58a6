"""Frames: rows of bytes that are a body and its check.

What a frame tells is a tuple: (DATA, machine, place, event), (ACK, machine, turn, how many) or (ASK, machine).
"""

DATA = 68
ACK = 65
ASK = 72

CHECK_MODULUS = 65521
CHECK_OCTETS = 2
LEAST_FRAME = 4
EVENT_LIMIT = 16

PLACE_OCTETS = 4
TURN_OCTETS = 2
DATA_HEAD = 7
ACK_BODY = 8
ASK_BODY = 2


def check_of(octets):
    """Give the check of a row of bytes."""
    total = 0
    for place, octet in enumerate(octets, start=1):
        total += octet * place
    return total % CHECK_MODULUS


def number_to_octets(number, how_many):
    """Write a number as so many bytes, the one worth most first."""
    octets = []
    for worth in range(how_many - 1, -1, -1):
        octets.append((number >> (8 * worth)) & 255)
    return octets


def octets_to_number(octets):
    """Read a number whose byte worth most comes first."""
    number = 0
    for octet in octets:
        number = number * 256 + octet
    return number


def body_of(told):
    """Write the body that tells this."""
    head = [told[0], told[1]]
    if told[0] == DATA:
        return head + number_to_octets(told[2], PLACE_OCTETS) + [len(told[3])] + told[3]
    if told[0] == ACK:
        return head + number_to_octets(told[2], TURN_OCTETS) + number_to_octets(told[3], PLACE_OCTETS)
    return head


def make_frame(told):
    """Write the frame that tells this."""
    body = body_of(told)
    return body + number_to_octets(check_of(body), CHECK_OCTETS)


def read_data(body):
    """Give what a data body tells, or None where its event isn't just as long as told."""
    if len(body) < DATA_HEAD:
        return None
    length = body[DATA_HEAD - 1]
    if length > EVENT_LIMIT or len(body) != DATA_HEAD + length:
        return None
    return (DATA, body[1], octets_to_number(body[2:6]), body[DATA_HEAD:])


def read_body(body):
    """Give what a body tells, or None where it's none of the three kinds."""
    if body[0] == DATA:
        return read_data(body)
    if body[0] == ACK and len(body) == ACK_BODY:
        return (ACK, body[1], octets_to_number(body[2:4]), octets_to_number(body[4:8]))
    if body[0] == ASK and len(body) == ASK_BODY:
        return (ASK, body[1])
    return None


def read_frame(octets):
    """Give what a row of bytes tells, or None where it's no frame."""
    if len(octets) < LEAST_FRAME:
        return None
    body = octets[:-CHECK_OCTETS]
    if octets_to_number(octets[-CHECK_OCTETS:]) != check_of(body):
        return None
    return read_body(body)
